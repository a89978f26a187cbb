import PyProof.Rows.All
import Wide.All
import OpenK.AllK
import Wide.FinOn
import Lean
import PyProof.EqAt
import PyProof.EqKinds
import PyProof.TupleCall
import PySem.Str
import PyProof.ZipIter
import PyProof.Draws
import PyProof.StrLawsChain
import PyProof.StrLawsTight
import KE.KIntText
import OpenK.KTop
import PyProof.StationsW
import PyProof.ExcClass2
import PyProof.ExcBaseAll.ValueError
import PyProof.Rows.Catch
import OpenK.KOwn
import KE.KTryMore
import KE.FramesApart
import PyProof.RulesAs
import PyProof.NsDelKeeps
import PyProof.ExcArgs
import PyProof.Rows.SortStr
import KE.KDictSum
import PyProof.DictWalks
import PyProof.IsiH_list
import KE.KDictOf
import PyProof.NeKinds
import PyProof.StrCalls6
import PyProof.FString
import KE.KUnpack
import KE.KItemsList
import KE.KRevIter
import KE.IntBitsLaws
import PyProof.FString5
import PyProof.TupleKey
import Wide.Seal
import PyProof.Rows.SortShellK
import PyProof.DictRoadsH
import PyProof.Rows.SortRev
import PyProof.Rows.SetFrom
import PyProof.FactsAll.set_2
import PyProof.FactsAll.set_1
import PyProof.Rows.SortShell
import PyProof.Tail
import KE.KMinKey
import PyProof.ExcArgsOwn
import PyProof.ExcAttrAll.ValueError
import KE.KRevSl
import PyProof.FactsAll.dict_itemiterator_1
import PySem.Challenge.RW_askwright_k67_reasons_told
local macro_rules|`(tactic|simp! [$x,*] $[$l:location]?)=>`(tactic|simp only [$x,*] $[$l]?)|`(tactic|dsimp! [$x,*] $[$l:location]?)=>`(tactic|dsimp only [$x,*] $[$l]?)
set_option hygiene false in
local macro_rules | `(command| #print $s:str) => do { let mut a := #[]; let mut n := 0; let mut k := 0; for c in s.getString.toList do { let v := c.toNat; n := n*64+(if v<58 then v-48 else if v<91 then v-55 else if v==95 then 62 else if v==126 then 63 else v-61); k := k+1; if k%11==0 then { a := a.push (Lean.mkIdent (Lean.Name.mkSimple ("tw"++toString n))); n := 0 } }; `(structure PySem.W.Fast:Prop where ($a*:True)) }
set_option maxRecDepth 100000 in
#print "7qX5aNWxCEi82jThrJILRM1vOQ0us66Fj2NuZfsvTp479YtjbBCAXHsCq5HOw4AkgB5xJD92z3drx7nHeIFWsSE73iIQ__c2~pY08s4mhjnQ1D49cU3u5ghWq7mUfB7AH0hn0v1qHAEyF1hF04AA8kvtvACMMZN9WUwHh5ydFEYSz7Wo2a~4taDUJoWA~du1D_Ml3iAwYpQ~lMNXuCcs04Nx7jA2CcWQmlKQiEeAfsh2VwIdZQ9etqOskpHoC4enwkq~xFnvFGOzbKbSiFY0mL9qQqH0t4FIPEpIJrfDkFymEltB9pVe0RPX24u6~xIFzWJFsxLbQR0dzyCBswrErBY~26~loJw16RZjXG1yeto5wxQf_TKHWH7XcGb8FGTqn5T413DmBApz5FCJ~lrGiwz52HU8Z0Uye3CGSmqgIw1bj7ilYLpRNXeX01jCFspV1KeAu_r1PlLijLBOsmB6obJfgCspTE_HM_4s2E2y6oMSpXj12l9hQjvo2m5kQjhF_G01G8C2s9uO~Ywm2EIXw3B_x8rDnY548N4Msy0izP4fsmjKUA8QEwxlN9ya09TrLmPbkx7C517_tb2DnR5JY_Td9rM1U6BRX0O88AzcCu2hpD3GT582mhS5zuggrPEEXLOd4I_QHDYq4B9M_4Qp9Pw2kjLZKB~6h2GuxjprdO28_E0zJ~cqj84cnAW862a2DQgkKkhyhPSD6Q2FhNFj3I99jpjIp3xl~DEyZ44Pa1uS3ZuOSuhlzdIF1NdS1MDC9h1sqUZLILSBZ1To6iFfaX7yAX57Fgu0ENp3HH9w1nxrfFB27axdZhGtfDMSbw7UeEvW7NK3~Of0TUM7hd0w92BFEH6codVeFq64476bS0uWjAFf5rcozrhTljY3e2fkMZmsn56UwcUR7mKbqEnX~opfPk1UAPIAV~ieKnz3SoqkEu_npp130L712CExr9nukoOroA0REsR6WzwU3RZ0zSj4ChR8ACC8NqsZpaNk9ENjLJ9ZZ6971J5vIz~rxT3C9jUfMgZJyL5T3HijJcizl7GcQ5ZOk1XSAR7wifpL3SW4TmnVZ35jwX7KkpqvNGR4K0Ya8ml_rRRS3qbF49EEx_10ZXrZLrnhur7WQED7p9hn~4W0qb9mEE~b9hFiCQ5Kxhx4PmlZJn0PiE5EoUh4KWUUP48SH43bE_7H3507~JxZlqlF9rdYVh~M0V8VSGF_Hd4MJ4rodBx~INSp2HQ0rOApVyG8NFFyM9jY8wAnz2lnCtK~N9hIeneIPf945v0ajNMzkEG4pICf~kdKw8DWAqQSwOdvh4XtNvy9_JjpFmaAJer5OyO1i1vCSW3m534~H8tR7tOwFAOa74J_Mm9o1_LJw3WKyHi3~J00aWmz1934mJ1Pv8~p72R5Q7IZ06K10EZeoPvQEbh8fXeVYfIQba80gDW9rjkhNFh3NQ1sRchj4klRj0fRbJ8ClY5x0NIdND9f5NVoMp7v7CRyOnbyJ9133OjAo8SpR6N7d0vQ6htnTI5kqrtLYcnQB3bFE_nJZR8S8qLiGVzd~vS39NpkQF82K2DhywIZeIrfT01tgMU548jz4_wSyuOYOzg6ySrjJJ74RyFYnRPyUTSBSE6xyo0ws~SS8gcG4hSKtPq3B_Rzjf3hU~FNJKhpiJQ3TBQELdo1C0EBCLEKttCMtHNEAv_h2uJIx0A7ZTcHxEwco496IwgLSY4K14AN0Kh2OId6waRsz2VXko5ketMFFtNoP4NKhYBUXIILBfrkmiBNlHi8YAywhqMUHS9RmSefpCKeI3RDo0Kye_bbAk22aqtxPbgEx6FFV0nw4V7k3G8POfgnREOcVpmpZwog96VQSd3DA8628WEspa6bOK4w9va~f6KZg1YLlwNjQYD6BIS~VUUzfXcEEN3NUpHOUi2uHF_BJGD6sAd32pQ2r2WF6_o5HnjfPl8FP_PpeX38Yj3DsO7j1hHVyBPaQojePdRM58TuG5alVvt4Eb784iq9u27SNBcUXcdgB2EdIAV~uSR8F36r3tDhJK~BCHRwZQaaY84EvB9VhBYIVB5oNRQtC2xcA35FbQqdkyI3a2YvJ5EAwwAfIG2KPt6~_21W74xQJOxx1w3DNoNZxjR7xqo7uM4BNJ6inWiqfFbQe6RHnaVlMg172TmPbarbZ_iB30fWFZ6RkE0TASm6NOSe0Auus8J47ds17nja9Ni9NUP40V4w3LnDnp6ttYUcvru8b15tzt0fYt5E7Axh9wyPyO65YrcqYGjn9cDDeYWn6ZwSlAW5nPXdnrvrDC739Rz3vKwFDxasMcep0O2S9tRtAoY5i2Ee1p8Ohh32DBUkdi9n8np8S_mNGtJYQz3UG84jecoY~ADmBJa4LAdQ0lELPXaSgJeA~zuLiRJo0t2TaVXstXtw5BSBs58hPqth7YMUyQI9z9h6xo8MqS5vhS8A3I_AdIS2f6D8oAXTm2S2AlI4D1iii_r8EGnVdbrFK35NCXm5mO7zuBC7d_pUmvgI8LJtB5LC8uY20AljKG_15f19FfQMyXUMO6pVmqoYC4rkAYJAw3Si44W9rD8qeSb9Yc6cDaSu7Yith2Polxt1UgZo9B91CL8WJLH34Q4ACmAYLY1sgwoSR0WGT7Wnd1f2lwWQ6riP1t0oDTTAlabmBnFBTQCHttCJ_XENc9lCj4aTLHQB58_MjfJX7BQEKZk4L8pihBDaCSnmia_EO3p7e6_KY0uSDs_nQVBXCpn1cjsJd9TjHT4swBemCXoXV9WKSfiBOw8uD61SB2FJbxl6o~HjWp4gFVAClwlU~YlVBEfombIhsNSR7FtWSMVANbx5G_amNB5Cgj8Ew2S8MoeOQ09esZFnyZMBDNdhpODW5d76N84SnI5M7~5CWdTQzlrQQEzmmzpTvj86DWyJePV_3Zq5PWDgslyF4zEi0Hxb4zvcC65BDyB0lJa7D837cqsiGLtByevrGCw8MWAjYsZfG34ToBb9gf53lJKz0N3ibwf244NDAb40wYhFENFOl3CQ~2GqZ7pQZvyXe~kXAFJQBGozpmp8jZN64b05tc7FxHwwDd95M66NNaedNOyfFfJOQCSgH4o7RU3CKYJgdj96plBWAACwD7uMC5PwIJzN8TXHXLxTCrQ7sUxRpqfpcrF3NvKqNHakh5hiBn~94LWb9UkNhR8hKjWBK80cU3B3SY0_1KyL6lY1FEsE6punLLo65lTJZlYZQyb0gSxCnhiKG18HYri9RZgVa7nZW9OK7XZA2kN8Bk5nkT8AcdlLO51Omz3Y24AX7pr370gpDcuBi~_h2UvQ1Byt1fxFnjN6dCUg2KEjJkwY6yce21Chljxhg8qt5V9ibo4GP0o0nc50~5~_aE4fcbL7FM9djAf3LGiTNd9WFEweOtlCzGdD_VOBsCYjhFAemynTC98zl9NXO89RlATj7SkgDOueSeyEmv1sFw3BPrAbMo~0iqClRDDnLg3D0V2X8HfpTuqVmUa4NLokw3FrTq3cInx6CMzxHAS5Yb9K2M4P16j_gSDLuL15pAIpt7ttV0B35oYVu1XaZ5FdZ4bLGdOjAptwwHff2eA9cl7st8eEMs1MOoAqqtr1uBXhJaNyjH0V7~Sq94aUs2e9Da~Y1zhsnt8f3iPwPxNUhAJGElP6cymqDH0KYaUYFk393PfBhF7RuXEUr3_F0OGPr5dNfnY4JjTQ8genkBxKzC84GysDnXR0fT8YMKgUXbT~WBeX90bauk1X6uArD3PfoCS5NcwykCnWyJ1vFG2uiLrG9BkyMC3iOO_z1hQZcq4UA6sA_AUlULk4eM8fXyDtr93TSDLFItPMSlCD7wxeIUrQMdL2pXqQQfUQQuDvE093llKZvDCnkLJRyt2q4huq8_8ywGIDbBkVgK800v0Z9c0iuk1Yc145YhXWZGzOBpILK53X85G5dn4wGpTvh94Nof28FrmxgCGjkL58H7Mr5TBhmOvlkEl7j4W8a6ni3g2do4Amf1O6a3mLW~Ird4k85YoeZzSqSef9OzdEpNxM8KD7RPGHJIV78BYpLUSxmh0YCWpCpXPAoCrCi6ywCLXCs_53hLS37dMkhCBBCmp9~ag63lYs8gfmCuK4ej~kQEwExL8h~FtZi~KOf7l7pyJasajDFb0R_5ToLctEURDkWZdjqcD_kFr4~YQmv5KhktWH2AQw4Dhj6PpglfJ0Wko9yBRzaJ04EkUgrro8EAlEbGZ814yy6CA5Dz2AglKCYH3Hn3TXsf12ndH2Vwyxv9dRcnpmQZf60ihKrG1HZ2W7kvJ4mROFjs1jBsOUBhpwfA9XFfSoMhGE8buDj3E_Pqp3YxWQCWLxgo8u7drCodo1I1UAy_A9PXE56jk5YUAKBjN1MbwngYVy1sC6Vrq0JzeMw7QTsBBEYKdS4mZNLUCpfg50_HXmaIijf58B6GU0jRC5Q6l4z2YLgvl435TcsPWo02e0sM1MaeSIExA7DXkwWVJmpCBX204cYM8cCrILBNnomfx4O4fWbe23gi54dj378pRC563P7i2i3ErV38CDJ9wzt6UB2oEpw7ytjz1Jae7AooRrs8Wjb805A9Hf0NRHqKwTxVLE9xN0TsoRJ6Fvx6S03xaLZ3yvQs4b_GMV2cwIBmGVt2CC7FDM1WOzYX6~NkJ~k7uBT7Bk6tO~AOxuBvaw8FQ08XJCF9TgsuRvy55dguFt3C9hr8EZVJgcuSJ42QMEmPswbIA0hkBWRgH_Ap6Uw7_kksIdkCLYez9tUh6m1u6tKQ2g00hA4lKMwBB0WsFmi74PyaQ~JDCYg3GOWLBBC93pnjYrrUJB7NVMRVdiOt1lQD2a0zI0NCxpM7Efaj493JGtPu5N37N3tVPyqSbeh0Fh3OnbTI~OMAu58ClE0eps7zyb7s~9J4jF0hN_O8WJHkFSJ~8HsFoSJAchgThmoRhlFUhe~sDKEfDEkmmLZn0sMV4MTIrk2ojMQC2p4RYo7NqDCJDDjtMYQK5BCRSH_c9fRu4eYuojezCpIFvnniRPNJdl99R3RO24ZDK5HYD9x5k3SL8MM0B~3FPpM5C65VxepgLC8qorxuv9NSU0z7eLBoI3yR7AUI82b_vvuB8dz9VoZEdm9s7_L9O04jB5tih5YYcGtl9z4wBnY0EWzDSJGjsxigMt4XUKvLWW~YPDR8pWXyoGiu8Nl0buVayQo033N9GYlqpr4Ntx2bPqKnX9pgiddjnYPp1TDCOb65Epb1hZjHJIv3gtCOZKcoeNUHkDFUKgU3iPPFA3xljADbaqa7kB0dsyU3VZFh8e~fofOOy9G7qkQ44dDc6XM0_7Zt91r0LXKTxmoiXK3yNBDfWCR_Z9WJGsp3D0RIFH3sojuzp6EFRMhMF2CMDEDORdVceem5U4Vsc10wUz0qA4B0eIFS_S4AHj0wO~MjCG8T2EqL4aBua7zYFbtCucqj4FtA3E_Ilu08UzULDTqX6Y1BFEATd7QY~9Y4IXfJbjQ248byLPgo18m9a_hdVDkOQe2Uk3IgYmh~pCpwRqEu2JcH8lPtNdGKhoR"
set_option bootstrap.genMatcherCode false
set_option genSizeOf false
set_option compiler.extract_closed false
local macro_rules | `(tactic| trivial) => `(tactic| first | rfl | exact .inl rfl | exact .inr rfl | exact .inr (.inl rfl) | decide +kernel | (intro _; rfl) | omega | exact ⟨rfl,rfl,rfl,by decide +kernel,rfl,by decide +kernel,by decide +kernel⟩ | (intro _ _ _ _ _ _ us hl; rcases us with _|⟨_,_|⟨_,_|⟨_,_|⟨_,_|⟨_,_|⟨_,_⟩⟩⟩⟩⟩⟩ <;> first | rfl | cases hl) | (intro _ _ _ _ h; cases h; subst_vars; rfl))
set_option hygiene false in
local macro_rules | `(tactic| ac_rfl) => `(tactic| ((try dsimp only);first|assumption|exact Inv.tk (by assumption)|exact Nat.succ_pos _|exact Nat.lt_of_lt_of_le (Inv.tk (by assumption)) (by assumption)|exact Nat.add_pos_left (Inv.tk (by assumption)) _|omega))
local macro_rules | `(()) => `(by trivial)
local macro_rules | `(#[$f:ident,$n:num,$xs,*]) => do let h ← `(_); let b ← `(by trivial); let mut a := Array.replicate n.getNat h; for x in xs.getElems do { match x.raw.isNatLit? with | some k => a := a ++ Array.replicate k h | none => a := a.push (if x.raw.isOfKind ``Lean.Parser.Term.hole then b else x) }; `(@$f $a*)
local macro_rules | `(⟨$xs,*⟩) => do let h ← `(_); let r ← `(rfl); let mut a := #[]; let mut c := false; for x in xs.getElems do { match x.raw.isNatLit? with | some 0 => { a := (a.push h).push r; c := true } | some _ => { a := a.push r; c := true } | none => a := a.push x }; if c then `(⟨$a,*⟩) else Lean.Macro.throwUnsupported
set_option hygiene false
local macro_rules | `(#v[$xs,*]) => do let mut r ← `(qc); for x in xs.getElems.reverse do { r ← `(#[qb,5,$x,$r,_]) }; return r
local macro_rules | `(%[$xs,*|$k]) => do let mut r ← `(#[qe,3,$k]); for x in xs.getElems.reverse do { r ← `(#[qd,5,$x,$r]) }; return r
local macro_rules|`(#[zp,$a,$b])=>`(#[zp,7,$a,$b])|`(#[QE,$a])=>`(#[QE,4,$a])|`(#[Qr,$a])=>`(#[Qr,3,$a,_])|`(#[qz,$a,$b,$c,$d])=>`(#[qz,9,$a,_,$b,$c,$d,_,_,_,_])|`(#[Q6,$a,$b,$c])=>`(#[Q6,2,$a,2,_,$b,$c,rfl,_,_])|`(#[xa,$a])=>`(#[xa,4,$a])|`(#[qp,$a,$b,$c,$d])=>`(#[qp,8,$a,$b,$c,$d])|`(#[k8,$a])=>`(#[k8,4,_,$a,_])|`(#[qr,$a])=>`(#[qr,4,$a])|`(#[jf,$a,$b,$c])=>`(#[jf,8,uQ,rfl,$a,$b,$c,_])|`(#[qZ,$a,$b])=>`(#[qZ,2,$a,1,$b,rfl,Or.inl rfl,_])|`(#[qD,$a,$b,$c])=>`(#[qD,2,$a,4,$b,rfl,Or.inl rfl,$c,_,_])|`(#[Qw,$a])=>`(#[Qw,4,$a])|`(#[qE,$a])=>`(#[qE,5,$a])|`(#[jr,$a,$b])=>`(#[jr,6,uQ,$a,$b])|`(#[qJ,$a,$b,$c])=>`(#[qJ,7,$a,$b,$c,(λ_ _=>rfl)])|`(#[qY,$a])=>`(#[qY,4,$a,_])|`(#[YL,$a,$b,$c,$d,$e,$f])=>`(#[YL,12,$a,$b,$c,$d,$e,$f,_,_,_,_,_])|`(#[Zm,$a,$b,$c,$d,$e,$f])=>`(#[Zm,2,$a,(1),$b,9,$c,rfl,$d,$e,(λ_ _ _ _ _ _=> @Yd _),$f,_])|`(#[qV,$a,$b,$c])=>`(#[qV,8,$a,$b,$c])|`(#[qL,$a,$b,$c])=>`(#[qL,8,$a,$b,$c])|`(#[qt,$a,$b,$c:ident,$d])=>`(#[qt,16,$a,$b,_,$(Lean.mkIdent (c.getId++`m)),$(Lean.mkIdent (c.getId++`F.kp)),$(Lean.mkIdent (c.getId++`b)),.nil,qA,$d,_,_,_])|`(#[yJ,$a,$b,$c,$d])=>`(#[yJ,8,$a,$b,$c,$d])|`(#[Q2,$a,$b,$c])=>`(#[Q2,8,$a,$b,$c])|`(#[pe_gR,$a])=>`(#[pe_gR,4,_,$a,_])|`(#[qK,$a,$b,$c,$d])=>`(#[qK,9,$a,_,$b,$c,$d,_,_,_,_])|`(#[YR,$a,$b,$c,$d])=>`(#[YR,10,$a,$b,$c,$d])|`(#[YJ,$a])=>`(#[YJ,3,$a])|`(#[Qz,$a,$b])=>`(#[Qz,6,QW hr,$a,$b,(λ_ _=>rfl)])|`(#[pe_one,$a])=>`(#[pe_one,5,$a])|`(#[Qg,$a])=>`(#[Qg,8,pv 0,$a,rfl])|`(#[Js,$a,$b,$c])=>`(#[Js,9,QW hr,$a,$b,$c,rfl])|`(#[Qi,$a,$b,$c:ident,$d,$e])=>`(#[Qi,20,$a,$b,$(Lean.mkIdent (c.getId++`h)),$d,hr.mono (),$(Lean.mkIdent (c.getId++`b)),.nil,qA,$e,_,_,_])|`(#[yg,$a,$b,$c:ident,$d])=>`(#[yg,17,$a,$b,$(Lean.mkIdent (c.getId++`h)),$d,hr.mono (),$(Lean.mkIdent (c.getId++`b)),.nil,qA,_])|`(#[yf,$a])=>`(#[yf,6,_,T.YE,$a,_])|`(#[zt,$a,$b,$c,$d,$e:ident,$f,$g])=>`(#[zt,17,$a,$b,$c,_,$d,$(Lean.mkIdent (e.getId++`b)),.nil,$f,$g,_,_,_])|`(#[w])=>`((by with_unfolding_all rfl))|`(#[X,X])=>`((model X.prog X.w))|`(#[w,w])=>`((model prog w))|`(#[Y,$a,$b])=>`((⟨$a,$b⟩:Sy.Ss (SyP qs)))|`(#[K,$a,$b,$c,$d,$e])=>`(FnOk P w K mg base CX0 $a $b $c $d $e)|`(#[K,$s:str])=>`((PySem.W.nsIn K mainGlobals $s))|`(#[K,$x,$s:str])=>`((PySem.W.findIn K (.ref $x) $s=some none))|`(#[$f:ident,T])=>`($f (P:=P) (w:=w) (base:=base) T)|`(#[$f:ident,T,C])=>`($f (P:=P) (w:=w) (base:=base) T C)
local macro_rules|`(tactic|exists $es,*)=>do{let a:=es.getElems;match a[0]!.raw.isNatLit? with|some 6=>let x:Lean.Ident:=⟨a[1]!.raw⟩;let y:Lean.Ident:=⟨a[2]!.raw⟩;`(tactic|obtain ⟨$x:ident,$y:ident⟩:=$(a[3]!) X G $(a[4]!) $(a[5]!) (by rfl'))|some 7=>`(tactic|try dsimp only [cxOf,Cx.nox])|some 3=>`(tactic|(refine ⟨_,$(a[1]!),?_⟩;(try dsimp only [cxOf,Cx.nox]);(try (apply cl_i (a:=K) (b:=a);intro _ _))))|some 4=>`(tactic|try (apply cl_i (a:=K) (b:=a);intro _ _))|some 5=>`(tactic|repeat (first|(with_reducible refine seq_0 ?_;intro _ _ _)|(with_reducible refine if_C ?_;intro _ _)|(with_reducible refine while_C ?_;intro _ _)|(with_reducible refine for_C ?_;intro _ _)))|some 8=>let x:Lean.Ident:=⟨a[1]!.raw⟩;let y:Lean.Ident:=⟨a[2]!.raw⟩;`(tactic|((first|refine seq_oC ?_|((apply cl_i (a:=K) (b:=a);intro _ _);refine seq_oC ?_));intro _ _ $x $y _))|some 9=>let x:=Lean.mkIdent (a[1]!.raw.getId++`F.ok);let y:Lean.Ident:=⟨(a.getD 3 (Lean.mkIdent `hr)).raw⟩;`(tactic|refine $x $(a[2]!) (by trivial) (λ_ _ _ s H _ Q E $y h=>?_))|_=>let h←`(?_);let b:=a.push h;`(tactic|((repeat (first|(with_reducible refine seq_0 ?_;intro _ _ _)|(with_reducible refine if_C ?_;intro _ _)|(with_reducible refine while_C ?_;intro _ _)|(with_reducible refine for_C ?_;intro _ _)));refine ⟨$b,*⟩))}
set_option hygiene true
set_option hygiene false in
local macro_rules | `(tactic| rfl') => `(tactic| first | exact bo1 (fun _ _ _ _ _ _ _ => rfl) | exact bo2 (fun _ _ _ _ _ _ _ _ => rfl) | exact bo3 (fun _ _ _ _ _ _ _ _ _ => rfl) | exact bo4 (fun _ _ _ _ _ _ _ _ _ _ => rfl))
set_option hygiene false in
local macro_rules|`(tactic|erw [$rs,*])=>do{let rec f (e:Lean.Syntax):Nat->Lean.MacroM (Lean.TSyntax `Lean.Parser.Tactic.rcasesPatLo)|0=>`(Lean.Parser.Tactic.rcasesPatLo|_)|n+1=>do{if e.isIdent then{let x:Lean.Ident:=⟨e⟩;`(Lean.Parser.Tactic.rcasesPatLo|$x:ident)}else{match e with|`([$xs,*])=>do{let mut p:=#[];for x in xs.getElems do{p:=p.push (← f x n)};let q:=p;let t←`(rcasesPat|⟨$q,*⟩);`(Lean.Parser.Tactic.rcasesPatLo|$t:rcasesPat)}|_=>`(Lean.Parser.Tactic.rcasesPatLo|_)}};let mut p:=#[];let mut h:Array Lean.Term:=#[];for r in rs.getElems do{match r with|`(Lean.Parser.Tactic.rwRule|$e:term)=>{if h.size==0 then h:=h.push e else p:=p.push (← f e 9)}|_=>Lean.Macro.throwUnsupported};let q:=p;let g:=h[0]!;`(tactic|obtain ⟨$q,*⟩:=$g)}
local macro_rules|`([$a:term : $b:term])=>`(⟨$a,$b⟩)|`([$a:term : $b:term : $c:term])=>`(⟨$a,$b,$c⟩)
noncomputable section
set_option Elab.async false
set_option linter.all false
set_option maxRecDepth 100000
set_option maxHeartbeats 4000000
open PySem.W renaming Frag->o0,mg_of->uR,kia_one->vw,callWith_K->UQ
open PySem renaming Addr->o3,Value->o6,Shared->o7,Heap->o8,Program->o9,World->og,Around->oh,wpAny_bind->Ab,wpAny_pure->uE,sizeLine_eq->uF,boot_len->uJ,wpAny_with_toks->vh,call_meets->vn,wpAny_truthy_bool->vA,wpAny_newObj_type->vB,wpAny_field->vF,wpAny_callSpecial?_slot->vG,mem_of_lookup->vM,wpAny_mono->vS,typeIs_str->vT,wpAny_loadPart'->vY,wpAny_call_entry->U3,wpAny_passesOwn->Uc,wpAny_seqItems->Uj,wpAny_Call_Name_kw->Um,tupleKind_room_in1->Up,wpAny_setField_rec->Uq,wpAny_binaryOp_repeat_ref->UH,wpAny_pyIter_list->UW,wpAny_rule->UX,wpAny_isInstance->V4,typeIs_int->V8,wpAny->Va,sizeLine->Vb,FuncData->Vd,starEach->Ve,cLine->Vj,compareOp->Vm,backTo->Vn,IsPair->Vp,model->Vq,Scope->Vt,sysModules->Vu,mainGlobals->Vv,IsZip->VB,binaryOp->VC,NameKind->VG,wpAny_holding->VH,bindC->VI,codeAny->VJ,getItem->VL,bindL->VM,unsetMember->VR,Builtin->VS,IsPart->VU,assignEach->VV,sliceBounds->VX,assign->VY,attributeBase->VZ,rawInt->V_,pyNext->gP,atKey->gR,valueAt->gV,Keyword->gW,field->gX,bindArgs->gZ,callerA->G6,holding->G7,Meets->G9,stored->Gb,Result->Ge,keywordEach->Gg,bootBuiltins->Gi,wpAny_typeOf->Gj,backToKw->Gm,BindsTo->Gn,tupleKind->Gu,CmpOp->Gy,cellsFrom->Gz,Model->GD,DictEntry->GF,behindInMarks->GH,subscripted->GK,Operator->GM,limitOf->GN,call_meetsIn->GP,swapsWith->GS,standAt->GT,InCallC->GU,newList->GY,storeName->GZ,getMethod->G_,closureFor->hX,operate->Hi,Params->Hj,wpAny_load->Hn,pyIter->Hs,wpAny_attempt->Hx,cellOf->Hz,wpAny_standAt->HC,typeLookup->HG,letOwnedTupleGo->HH,wpAny_execs_nil->HI,codeAny_mono->HJ,foldedSetIterable->HL,getAttr->HM,inplaceOp->HN,strKind_is->HR,firstArgMember->HZ,evalPart_none->tj,wpAny_newList->tu,GenState->tD,slicePick->tF,wpAny_call->tH,seqItems?->tL,wpAny_pyIter_tuple->tM,concat_meets->tN,callWith->tQ,PlainAttrs->tT,seqIndex_of->tU,noFill_tuple_add->tV,compEnvC->tY,spliced->t_,builtinsNs->T1,seq_tuple_add->T4,wpAny_Name->T6,leaving->Tf,wpAny_Call_method->Tl,setItem->Tt,wpAny_onRaise->Tu,newFunctionEnv->Tz,wpAny_assign_Name->TB,meets_str_split_sep->TD,meets_str_split_not_found->TF,wpAny_loadName_cell->Fa,split_sep_max_tree->Fd,wpAny_pyNext_list_item->Fo,evalPart_some->Fy,wpAny_mkText->Fz,IsRangeIter->FA,attributeErrorLeaves->FB,wpAny_in_of->FD,wpAny_of_eq->FG,typeLookup_type->FO,wpAny_execs_cons->FT,wpAny_comprehension_free->rc,wpAny_getItem_of->rg,intBits_le_64->rp,pushCells_keeps->rC,raiseAttrError->rE,boundAndCalled->rL,getattributeRaised->rP,wpAny_isTrue_Compare1->rV,wpAny_pyNext_list_end->rW,listOfItself->rX,wpAny_pyIter_zip->rY,wpAny_throw->r_,builtinLookup_eq_fast->R6,wpAny_updateSeq_pair->Ra,wpAny_setField->Rb,wpAny_loadName_local->Rc,joinFit_length->Rf,plainId_quiet->Rg,wpAny_letGo->Rj,getAttrByItsOwn->Rr,meets_str_split_cannot_occur->Rv,wpAny_storeName_local->Rz,codeAny_builtin->RC,wpAny_notIn_of->RE,wpAny_sequenceKey->RI,interactive->RJ,wpAny_Call_method0_late->RK,wpAny_getItem_list_slice->RL,wpAny_Slice->RN
open List renaming mem_cons->Ac,mem_singleton->Ae,mem_append->Af,mem_map->Ag,mem_filter->Ah,getElem?_eq_some_iff->Ai,length_map->uc,mem_cons_of_mem->ud,mem_cons_self->ug,map_cons->ui,length_cons->um,getElem?_eq_getElem->ur,map_append->uu,size_toArray->uz,length_append->uB,not_mem_nil->uD,getElem?_map->uI,map_map->uL,mem_append_right->uP,take_of_length_le->uT,append_nil->uW,mem_of_getElem?->uX,drop_eq_getElem_cons->uY,find?_cons->v7,eq_nil_of_length_eq_zero->vg,getElem_mem->vi,lookup_cons->vk,mem_nil_iff->vm,length_singleton->vq,append_assoc->vv,all_cons->vy,filter_cons->vz,mem_append_left->vH,length_drop->vI,drop_of_length_le->vL,map_congr_left->vO,getElem?_append_left->vP,nodup_nil->vQ,take_add_one->vV,filterMap_cons->vW,replicate_succ->vX,range_succ_eq_map->vZ,getElem?_append_right->U0,length_take->U2,all_eq_true->U4,mem_of_find?_eq_some->Ua,filterMap_cons_some->Ud,nodup_cons->Ue,map_nil->Uf,cons_append->Ui,find?_eq_none->Ur,forIn_cons->Ux,length_nil->Uy,length_filter_le->Uz,any_cons->UD,flatten_cons->UE,sum_cons->UF,take_succ_cons->UJ,all_map->UM,all_append->UT,getLast?_cons_cons->UU,reverse_cons->V1,drop_zero->V2,take_length->V6,range->Vh,replicate->Vl,lookup->Vx,Nodup->Vz,getD->VP,length->VT,range'->GG,set->GL,drop_left->Hm,take_nil->Ho,map_id->Hr,find?_some->Ht,range_succ->Hu,any_map->HD,mem_of_mem_take->HQ,map->HU,zipWith_cons_cons->tJ,any_eq_true->tS,any_eq_false->T2,perm_append_comm->T5,of_mem_zip->T8,length_range->Tj,nodup_append->To,mem_of_mem_drop->Ts,eq_nil_or_concat->TC,zipIdx_cons->TH,take_append_drop->TJ,getElem?_eq_none->TY,zipIdx_nil->T_,filter_append->f_,nil_append->Fb,getElem?_set_self->Fc,take_sublist->Fi,map_take->Fk,mem_of_getLast?->Fp,length_tail->Fq,drop_append_of_le_length->FS,getElem?_zip_eq_some->FV,length_replicate->rn,forIn_nil->rB,drop_length->rF,all_nil->rJ,getElem?_replicate->rM,any_toArray->rS,concat_eq_append->R8,drop_nil->Rm,getElem?_set_ne->Rq,cons_lt_cons_iff->Rt,take_zero->Ru,foldl->RD,find?_append->RH,mem_cons->uC,mem_singleton->Us
open Bool renaming false_ne_true->u5,and_eq_true->uw,eq_iff_iff->vR,and_true->vU,false_eq_true->UR,and_self->V7,true->v_,false->V9,or_eq_true->Hg,or_eq_false_iff->tm,and_false->tZ,true_and->Tv,and_assoc->Ft,not_eq_true'->FW,false_and->rG,false_or->R1,and_eq_false_iff->Ro
open PySem.Heap renaming get?_push_of_some->ue,lt_size->uG,get?_push_size->uH,size_push->vt,SameBut->GO,get?_update_self->T7,get?_update_other->Tg,FlyingW->Fs
open Nat renaming le_refl->uj,le_trans->uM,ne_of_lt->uS,zero_le->vf,lt_irrefl->vD,lt_of_le_of_lt->U6,le_of_lt->Uv,ne_of_gt->Uw,log2_le_self->UI,lt_or_ge->UN,le_add_right->V5,lt_of_lt_of_le->Vo,le_succ->GJ,zero_add->GW,sub_self->GX,lt_trans->Hq,min_eq_left->Hy,le_total->H_,min_eq_right->tW,succ->T0,succ_pos->Tc,lt_succ_self->Tp,eq_zero_or_pos->FU,add_mul->FY,add_zero->rh,one_mul->rm,add_comm->rD,not_lt_zero->rH,le_of_eq->rN,strongRecOn->R9,add_sub_cancel_left->Ri,succ_le_succ->Ry,succ_mul->RB,mul_comm->RO
open Option.some renaming inj->uK,injEq->pA
open PySem.F renaming plainAttrs_list->uN,plainAttrs_str->uU,slot_list_append->vd,type_list_append->ve,entry_str_split->vC,slot_str_split->vJ,slot_tuple_iterator_next->U1,args_str_split_2->U7,slot_str_join->U8,type_str_join->U9,plainAttrs_dict->Ug,type_str_split->Ul,slot_dict_pop->UA,slot_int_rmul->UB,args_tuple_add_2->UL,entry_tuple_add->US,slot_str_split->Uk
open PySem.PassesOwn renaming never->uQ
open PySem.Around renaming in1_units->uV,under->tG,under_plainId->TM
open PyProof.Rows renaming boot_isinstance->v9,boot_tuple->vc,callWith_type1->vE,slot_tuple_getitem->vN,boot_str->Uh,envOfC->Vg,AllBare->VO,IntsAre->Gf,IsTup->Gr,sortedS->GB,Subscript_->hZ,subscriptTail->Hw,tail_any->HE,boot_dict->HP,boot_all->HW,StrsAre->Td,boot_sum->Te,entry_tuple_getitem->Ff,isTrue_plain->Fu,tupleItemsOf_->FI,subscriptTail_builtinR->FN,slicePart_none->Rk,args_tuple_getitem->Rl,iadd_int->pF,callWith_builtin1->pN
open Array renaming length_toList->vo,size_append->HV,toList_append->tE,append_assoc->T9,getElem?_toList->rT,toList->Rx,size_push->RP
open List.cons renaming injEq->vx
open PySem.Calls renaming callWith_builtin->vK,spliced_cons->U5,evalArgs_plain->Ub,spliced_nil->UC,Name_function_global->R7,call_len_list->Rh
open Option renaming isSome_none->Uo,some->u_,none->U_,isNone->GQ,map_some->HA,isSome_map->Ti,map_eq_none_iff->Tw,map->Fe,getD_none->Re
open Int renaming emod_lt_of_pos->Ut,emod_nonneg->UV,toNat_natCast->tR
open Sum.inr renaming inj->Uu
open Ne renaming symm->UG
open PySem.SeqAt.EqAt renaming int_str->UO,str_int->UP,same->h_,str_str->HY,int_int->tO,tuple_str->TL,str_tuple->F0,tuple_int->FE,of_refs->F_,int_none->rO,int_tuple->rQ,none_int->rR,str_none->Rp,none_str->RG,none_tuple->RU,bool_bool->RX,int_bool->p9,bool_none->pc,bool_int->pd,bool_str->pf,str_bool->ph,none_bool->pK,tuple_none->pL
open PySem.SeqAt.RcAt renaming tuples->UY,str_tuple->Fv,tuple_str->FL,none_tuple->RQ,str_str->RV,tuple_none->pE
open Nat.le renaming dest->UZ
open Sum renaming inr->Vc,inl->gU
open PySem.Value renaming ref->Vf,str->Vy,none->VW,type->gS,int->gT,bool->Hv,float->HK,isStrOf->TX,bytes->RA,isInt->RF
open PySem.Str renaming join->Vi,length->VQ,ofString->GC,empty->Ta
open ToString renaming toString->Vk
open PySem.SeqAt renaming EqAt->Vr,RcAt->TN,RcNeAt->TQ,in_listAt->Fn,in_tupleAt->FQ
open PySem.NameKind renaming free->Vs,cell->gQ
open PySem.Builtin.Str renaming strKind->Vw,occurrences->GR
open False renaming elim->VA
open PySem.Spec renaming ltCps->VD
open True renaming intro->VF
open ForIn renaming forIn->VN
open PySem.StrLaws renaming occBody->gY,partsFrom->Hk,glued_eq_join->TR,joinTotal->rf,strSub_toList->Rs,occ_eq->RM
open PySem.Txt renaming startswith->g_,slice->Hl,slice_le->FH
open PyProof.Rows.IsTup renaming new->Gh
open PySem.Builtin.SmallTypes renaming nextOf->Gk,ownedTupleIsFree->Hh,ownedTupleHandOut->Fm
open Unit renaming unit->Go
open ForInStep renaming yield->Gq
open Or renaming inl->Gx,inr->GE
open PySem.Obj renaming mapSeq->GV,mapFields->TU,data_mapFields->Fw
open PySem.Builtin.Slice renaming slicePlaces->hV,sliceAdjust->tt,sliceApplied->rZ,sliceFields->RT,slicePartIndex->RZ
open PySem.Builtin.Tuple renaming tupleExact->HF,tupleTooMany->Tq,tupleItemsOf->FK,tupleIsExact->pB
open PySem.Data renaming seq->HS
open PySem.Code renaming isFrame->HX,frames->TV
open List.Pairwise renaming nil->tI,map->pH
open LawfulMonad renaming pure_bind->Tb
open PySem.Builtin.List renaming listTooLong->Tn
open PySem.Heap.SameBut renaming update->TK
open PySem.SeqAt.RcNeAt renaming tuples->TW,tuple_str->RS,str_tuple->pD,str_str->pI
open PySem.Walks renaming strAscii->Fg,strWide->re
open PySem.Heap.IsSliceOf renaming new->Fj
open Classical renaming choose_spec->FC,byContradiction->pM
open PySem.Shared renaming heap->FJ
open PySem.Heap.DictOf renaming new->FR
open PySem.Builtin.Dict renaming updateFrom->FX,selfAndRest->pG
open PySem.DictEntry renaming refKey->rA
open PySem.Heap.Ns1 renaming of_empty->RW
open PySem.Builtin.Range renaming rangeSize->RY
open PySem.AutoSeq1 renaming list_extend_list_list_0->R_
open List.Nodup renaming sublist->pk
open List.Sublist renaming refl->pw
open PySem.MeetsSeq renaming list_pop_last->pC
open Int.ofNat renaming inj->pJ
open PySem.Heap.IsList renaming push->pO
open List.Perm renaming eq_of_pairwise->pP
noncomputable abbrev oj:=List
noncomputable abbrev om:=Option
def A2:=@if_neg
def Aa:=@if_pos
def uf:=@decide_eq_true
def uh:=@decide_eq_false
def uA:=@of_decide_eq_true
def uO:=@or_false
def uZ:=@decide_eq_decide
def vj:=@decide_eq_true_eq
def UK:=@beq_eq_false_iff_ne
def V0:=@not_false_eq_true
def V3:=@not_or
namespace L2
open PySem PySem.Spec PyProof.Rows
noncomputable abbrev Key:=Sum Int Str
noncomputable def keyIs:Key->o6->Bool
 | .inl k,v=>RF k v
 | .inr x,v=>TX x v
noncomputable def keyH (w:og):Key->Int
 | .inl k=>hashInt k
 | .inr x=>hashStr w x
theorem Qu:∀{k:Key}{v:o6},keyIs k v=v_->(∃i t,k=gU i/\v=gT i t)∨(∃x t,k=Vc x/\v=Vy x t)
 | .inl i,v,h=>by
  erw[Value.isInt_shape (k:=i) (v:=v) h,t,e];exact .inl ⟨i,t,1,e⟩
 | .inr x,v,h=>by
  erw[Value.isStrOf_shape (x:=x) (v:=v) h,t,e];exact .inr ⟨x,t,1,e⟩
theorem keyIs_int (i:Int)(t:Tok):keyIs (.inl i) (.int i t)=true:=by simp [keyIs,RF]
theorem keyIs_str (x:Str)(t:Tok):keyIs (.inr x) (.str x t)=true:=by simp [keyIs,TX]
theorem key_ll (a b:Int):decide ((gU a:Key)=gU b)=(a==b):=by
 by_cases e:a=b
 ·subst e;simp
 ·have h:¬(gU a:Key)=gU b:=λq=>e (Sum.inl.inj q);rw [uh h];exact(beq_eq_false_iff_ne.mpr e).symm
theorem key_rr (a b:Str):decide ((Vc a:Key)=Vc b)=decide (a=b):=by
 by_cases e:a=b
 ·subst e;simp
 ·have h:¬(Vc a:Key)=Vc b:=λq=>e (Uu q);rw [uh h,uh e]
theorem key_lr (a:Int)(b:Str):decide ((gU a:Key)=Vc b)=false:=uh (λq=>nomatch q)
theorem key_rl (a:Str)(b:Int):decide ((Vc a:Key)=gU b)=false:=uh (λq=>nomatch q)
noncomputable def Qe (prog:o9)(w:og):PySem.KeyKind prog w Key where
 is:=keyIs
 hash:=keyH w
 inj:=λv a b ha hb=>by
  rcases Qu ha with⟨i,t,rfl,rfl⟩|⟨x,t,rfl,rfl⟩
  ·rcases Qu hb with⟨j,u,rfl,e⟩|⟨y,u,rfl,e⟩
   ·injection e with e1 _;rw [e1]
   ·exact nomatch e
  ·rcases Qu hb with⟨j,u,rfl,e⟩|⟨y,u,rfl,e⟩
   ·exact nomatch e
   ·injection e with e1 _;rw [e1]
 byValue:=λk v h=>by
  rcases Qu h with⟨i,t,rfl,rfl⟩|⟨x,t,rfl,rfl⟩<;>rfl
 pyHash:=λhv h=>by
  rcases Qu hv with⟨i,t,rfl,rfl⟩|⟨x,t,rfl,rfl⟩
  ·exact wpAny_pyHash_int h
  ·exact wpAny_pyHash_str h
 eqBool:=λhu hv h=>by
  rcases Qu hu with⟨i,t,rfl,rfl⟩|⟨x,t,rfl,rfl⟩
  ·rcases Qu hv with⟨j,u,rfl,rfl⟩|⟨y,u,rfl,rfl⟩
   ·rw [key_ll] at h;exact wpAny_eqBool_int h
   ·rw [key_lr] at h;exact UO i t y u _ _ _ _ h
  ·rcases Qu hv with⟨j,u,rfl,rfl⟩|⟨y,u,rfl,rfl⟩
   ·rw [key_rl] at h;exact UP x t j u _ _ _ _ h
   ·rw [key_rr] at h;exact wpAny_eqBool_str h
 «strs»:=λk x t v h=>by
  rcases Qu h with⟨i,u,rfl,e⟩|⟨y,u,rfl,e⟩
  ·exact nomatch e
  ·injection e with e1 _
   subst e1
   cases v<;>rfl
theorem mixKind_int (prog:o9)(w:og)(i:Int)(t:Tok):(Qe prog w).is (.inl i) (.int i t)=true:=keyIs_int i t
theorem Z5 (prog:o9)(w:og)(x:Str)(t:Tok):(Qe prog w).is (.inr x) (.str x t)=true:=keyIs_str x t
inductive V where
 |non|bl (b:Bool)|int (i:Int)|str (x:Str)|byt (b:Array UInt8)|flt (b:UInt64)|ref (a:Addr)|ty (n:String)
 deriving DecidableEq
noncomputable def RelV:V->o6->Prop
 | .non,u=>u=VW
 | .bl b,u=>u=Hv b
 | .int i,u=>∃t,u=gT i t
 | .str x,u=>∃t,u=Vy x t
 | .byt b,u=>∃t,u=RA b t
 | .flt b,u=>∃t,u=HK b t
 | .ref a,u=>u=Vf a
 | .ty n,u=>u=gS n
noncomputable abbrev Vals:oj V->oj o6->Prop:=Paired RelV
variable {xs:oj V}{us:oj o6}
theorem Vals.length (r:Vals xs us):xs.length=us.length:=Paired.length r
theorem Vals.get:∀{xs:oj V}{us:oj o6}{i:Nat}{x:V},Vals xs us->xs[i]? =u_ x->∃u,us[i]? =u_ u/\RelV x u
 |_,_,_,_,.nil,e=>by simp at e
 |_,_,0,_,.cons r _,e=>by simp at e;subst e;exact[0:r]
 |_,_,i+1,x,.cons _ t,e=>by
  obtain⟨u,h1,h2⟩:=Vals.get (i:=i) (x:=x) t (by simpa using e)
  exact⟨u,by simpa using h1,h2⟩
theorem Vals.set {x:V}{u:o6}(r:RelV x u):∀{xs:oj V}{us:oj o6} (i:Nat),Vals xs us->Vals (xs.set i x) (us.set i u)
 |_,_,_,.nil=> .nil
 |_,_,0,.cons _ t=> .cons r t
 |_,_,i+1,.cons q t=> .cons q (Vals.set r i t)
theorem Vals.append:∀{xs ys:oj V}{us ws:oj o6},Vals xs us->Vals ys ws->Vals (xs++ys) (us++ws)
 |_,_,_,_,.nil,s=>s
 |_,_,_,_,.cons r t,s=> .cons r (Vals.append t s)
theorem Vals.take:∀{xs:oj V}{us:oj o6} (n:Nat),Vals xs us->Vals (xs.take n) (us.take n)
 |_,_,0,_=> .nil
 |_,_,_+1,.nil=> .nil
 |_,_,n+1,.cons r t=> .cons r (Vals.take n t)
theorem Vals.drop:∀{xs:oj V}{us:oj o6} (n:Nat),Vals xs us->Vals (xs.drop n) (us.drop n)
 |_,_,0,r=>r
 |_,_,_+1,.nil=> .nil
 |_,_,n+1,.cons _ t=>Vals.drop n t
noncomputable def RelO:om V->om o6->Prop
 |some v,u_ u=>RelV v u
 |none,U_=>True
 |_,_=>False
noncomputable def KV {κ:Type}:oj (κ×V)->oj (κ×o6)->Prop:=Paired λ(p:κ×V) (q:κ×o6)=>p.1=q.1/\RelV p.2 q.2
noncomputable def kV:Key->V
 | .inl i=> .int i
 | .inr x=> .str x
inductive HO where
 |lst (xs:List V)
 |tup (xs:List V)
 |dK (kvs:List (Key×V))|dT (kvs:List (List Key×V))
 |set (S:Int->Bool) (n:Nat)
 |ins (C dx:Addr) (fs:List (Str×V))
 |own (x:Addr)
 |xd (fs:List (Str×V))
 |met (f x:Addr)
 |rng (lo hi:Int)
 |frz (o:Obj) (u:HO)
 |tbl (ps:Array Value)
 |ext (φ:Heap->Prop)
noncomputable abbrev Hp:=o3->om HO
noncomputable def upd (H:Hp)(a:o3)(o:HO):Hp:=λb=>if b=a then u_ o else H b
variable {H:Hp}{a:o3}
theorem qg {o:HO}:upd H a o a=u_ o:=by unfold upd;rw [Aa rfl]
variable {b:o3}
theorem qh {o:HO}(h:b≠a):upd H a o b=H b:=by unfold upd;rw [A2 h]
theorem ne_of {o u:HO}(h:H a=u_ o)(h':H b=u_ u)(d:o≠u):a≠b:=by
 intro e;subst e;rw [h] at h';exact d (uK h')
theorem ql {o:HO}(h:H a=u_ o)(h':H b=U_):a≠b:=by
 intro e;subst e;rw [h] at h';cases h'
section
variable (P:o9)(w:og)
noncomputable def yc (H:Hp)(h:o8)(a:o3):HO->Prop
 | .lst xs=>xs.length<=Vb/\∃(its:oj o6) (n:Nat),Vals xs its/\h.get? a=u_ {cls:= .type "list",data:= .seq its.toArray n}
 | .tup xs=>xs.length<=Vb/\∃its:oj o6,Vals xs its/\Gr h a its.toArray
 | .dK kvs=>kvs.length<=Vb/\(a==Vu)=V9/\∃vs,KV kvs vs/\h.DictOf (Qe P w) a vs
 | .dT kvs=>kvs.length<=Vb/\(a==Vu)=V9/\∃xs:oj (oj Key×o3×o6),
   Paired (λ(p:oj Key×V) (q:oj Key×o3×o6)=>p.1=q.1/\H q.2.1=u_ (.tup (p.1.map kV))/\RelV p.2 q.2.2) kvs xs/\
   ∃o es ep,h.get? a=u_ o/\o.ExactDict/\o.data= .dict es ep/\es.toList=xs.map (entryOfKey (Gu (Qe P w)))/\(xs.map (·.1)).Nodup
 | .set S n=>h.SetOf (intKind P w) a S n
 | .ins C dx fs=>H dx=u_ (.own a)/\fs.length<=1000/\dx≠a/\h.get? a=u_ (PySem.W.instObj C dx)/\
   ∃mA,h.Ns1 dx mA/\(∀f,RelO (fs.lookup f) (mA f))/\PySem.Within mA (fs.map (·.1))
 | .own _=>∃o,h.get? a=u_ o
 | .xd fs=>∃mA,h.Ns1 a mA/\∀f,RelO (fs.lookup f) (mA f)
 | .rng lo hi=>∃t u v,h.get? a=u_ {cls:= .type "range",data:= .fields #[.int lo t,.int hi u,.int 1 v]}
 | .frz o u=>h.get? a=u_ o/\yc H h a u
 | .tbl ps=>h.get? a=u_ {cls:= .none,data:= .fields ps}
 | .met f x=>h.get? a=u_ (PySem.W.methodObj (.ref f) (.ref x))
 | .ext φ=>φ h/\(∃o,h.get? a=u_ o)/\∀h1 h2:o8,φ h1->(∀o,h1.get? a=u_ o->h2.get? a=u_ o)->φ h2
noncomputable def HOk (H:Hp)(h:o8):Prop:=∀a o,H a=u_ o->yc P w H h a o
end
section
variable {P:o9}{w:og}{H H':Hp}{h h':o8}{a:o3}{o:HO}
theorem yc.lt (x:yc P w H h a o):a<h.objs.size:=by
 cases o with
 |lst xs=>erw[x,_,_,_,_,e];exact uG e
 |tup xs=>erw[x,_,_,_,p];exact p.lt
 |dK kvs=>erw[x,_,_,_,_,o,_,_,e,_];exact uG e
 |dT kvs=>erw[x,_,_,_,_,o,_,_,e,_];exact uG e
 |set S n=>erw[x,o,_,_,_,e,_];exact uG e
 |ins C dx fs=>erw[x,_,_,_,e,_];exact uG e
 |own y=>erw[x,_,e];exact uG e
 |xd fs=>erw[x,_,[_,_,_,e,_],_];exact uG e
 |rng lo hi=>erw[x,_,_,_,e];exact uG e
 |frz ob u=>erw[x,e,_];exact uG e
 |tbl ps=>exact uG (show h.get? a=u_ _ from x)
 |met f y=>exact uG (show h.get? a=u_ _ from x)
 |ext φ=>erw[x,_,[_,e],_];exact uG e
theorem Paired.mapP {α β:Type}{F G:α->β->Prop}:∀{l₁:oj α}{l₂:oj β},Paired F l₁ l₂->(∀a b,F a b->G a b)->Paired G l₁ l₂
 |_,_,.nil,_=> .nil
 |_,_,.cons r t,f=> .cons (f _ _ r) (Paired.mapP t f)
theorem yc.stay (x:yc P w H h a o)(k:∀b u,(b=a∨H b=u_ (.own a))->h.get? b=u_ u->h'.get? b=u_ u)
  (O:∀b,H b=u_ (.own a)->H' b=u_ (.own a)) (U:∀b xs,H b=u_ (.tup xs)->H' b=u_ (.tup xs)):yc P w H' h' a o:=by
 induction o with
 |lst xs=>erw[x,z,its,n,r,e];exact⟨z,its,n,r,k _ _ (.inl rfl) e⟩
 |tup xs=>erw[x,z,its,r,ob,e,c];exact⟨z,its,r,ob,k _ _ (.inl rfl) e,c⟩
 |dK kvs=>erw[x,z,y,vs,r,ob,es,ep,e,c];exact⟨z,y,vs,r,ob,es,ep,k _ _ (.inl rfl) e,c⟩
 |dT kvs=>
  erw[x,z,y,xs,r,ob,es,ep,e,c];exact⟨z,y,xs,Paired.mapP r λp q z=>[z.1:U _ _ z.2.1:z.2.2],ob,es,ep,k _ _ (.inl rfl) e,c⟩
 |set S n=>erw[x,ob,es,ep,t,e,c];exact⟨ob,es,ep,t,k _ _ (.inl rfl) e,c⟩
 |ins C dx fs=>
  erw[x,d,z,ne,e,mA,[od,es,ep,Z,c],r];exact⟨O _ d,z,ne,k _ _ (.inl rfl) e,mA,⟨od,es,ep,k _ _ (.inr d) Z,c⟩,r⟩
 |own y=>erw[x,ob,e];exact[ob:k _ _ (.inl rfl) e]
 |xd fs=>erw[x,mA,[od,es,ep,e,c],r];exact[mA:⟨od,es,ep,k _ _ (.inl rfl) e,c⟩:r]
 |rng lo hi=>erw[x,t,u,v,e];exact⟨t,u,v,k _ _ (.inl rfl) e⟩
 |frz ob u ih=>erw[x,e,q];exact[k _ _ (.inl rfl) e:ih q]
 |tbl ps=>
  have e:h.get? a=u_ {cls:= .none,data:= .fields ps}:=x;show h'.get? a=u_ {cls:= .none,data:= .fields ps};exact k a _ (.inl rfl) e
 |met f y=>
  have e:h.get? a=u_ (PySem.W.methodObj (.ref f) (.ref y)):=x;show h'.get? a=u_ (PySem.W.methodObj (.ref f) (.ref y));exact k a _ (.inl rfl) e
 |ext φ=>erw[x,p,[o,e],st];exact[st _ _ p λo q=>k _ _ (.inl rfl) q:[o:k _ _ (.inl rfl) e]:st]
theorem HOk.lt (x:HOk P w H h)(e:H a=u_ o):a<h.objs.size:=(x a o e).lt
theorem HOk.fresh (x:HOk P w H h)(e:h.objs.size<=a):H a=none:=by
 cases q:H a with
 |none=>rfl
 |some u=>exact absurd (Vo (x.lt q) e) (vD _)
theorem HOk.kept (x:HOk P w H h)(k:∀b u,h.get? b=u_ u->h'.get? b=u_ u):HOk P w H h':=λa o e=>
 (x a o e).stay (λb u _ q=>k b u q) (λ_ q=>q) λ_ _ q=>q
theorem HOk.laid (x:HOk P w H h)(k:∀b u,h.get? b=u_ u->h'.get? b=u_ u)(U:h.objs.size<=a)(new:yc P w (upd H a o) h' a o):HOk P w (upd H a o) h':=λb u e=>by
 have hn:=x.fresh U;by_cases O:b=a
 ·subst O;rw [qg] at e;cases e;exact new
 ·rw [qh O] at e;exact(x b u e).stay (λc v _ q=>k c v q) (λc q=>by rwa [qh (ql q hn)]) λc xs q=>by rw [qh (ql q hn)];exact q
end
noncomputable def Rd (H:Hp)(a:o3)(u:HO):Prop:=H a=u_ u∨∃o,H a=u_ (.frz o u)
theorem Rd.of {u:HO}(h:H a=u_ u):Rd H a u:= .inl h
variable {w:og}{h:o8}
theorem Rd.ok {P:o9}{u:HO}(r:Rd H a u)(x:HOk P w H h):yc P w H h a u:=by
 rcases r with r|⟨o,r⟩
 ·exact x a u r
 ·erw[x a _ r,_,q];exact q
noncomputable def Mut:om HO->Prop
 |some (.lst _)=>True
 |some (.dK _)=>True
 |some (.dT _)=>True
 |some (.set _ _)=>True
 |some (.ins _ _ _)=>True
 |some (.ext _)=>True
 |_=>False
section
variable {P:o9}{w:og}{H:Hp}{h h':o8}{x e:o3}{o':HO}
theorem HOk.write (ok:HOk P w H h)(mu:Mut (H x))(he:e=x∨H e=u_ (.own x))(k:∀b u,b≠e->h.get? b=u_ u->h'.get? b=u_ u)(aa:∃u,h'.get? e=u_ u)
  (new:yc P w (upd H x o') h' x o'):HOk P w (upd H x o') h':=λb u q=>by
 have U:∀c y,H c=u_ (.own y)->c≠x:=λc y r z=>by subst z;rwa [r] at mu
 have Z:∀c xs,H c=u_ (.tup xs)->c≠x:=λc xs r z=>by subst z;rwa [r] at mu
 by_cases hb:b=x
 ·subst hb;rw [qg] at q;cases q;exact new
 ·rw [qh hb] at q;by_cases O:b=e
  ·have q':H b=u_ (.own x):=by
    rcases he with z|z
    ·exact absurd (O.trans z) hb
    ·rwa [O]
   rw [q] at q';cases q';erw[aa,v,hv];exact⟨v,by rwa [O]⟩
  ·refine(ok b u q).stay (λc v hc r=>k c v ?_ r) (λc r=>by rwa [qh (U c b r)]) λc xs r=>by rwa [qh (Z c xs r)]
   rcases hc with rfl|hc
   ·exact O
   ·rintro rfl;rcases he with z|z
    ·exact U c b hc z
    ·rw [hc] at z;cases z;exact hb rfl
end
structure Un (fs ex:oj o3)(H H':Hp)(h h':o8):Prop where
 keep:∀b o,h.get? b=u_ o->H b=U_->b∉fs->b∉ex->h'.get? b=u_ o
 slot:∀b o,h.get? b=u_ o->H b=U_->b∈fs->b∉ex->∃sl,h'.get? b=u_ {o with slots:=sl}
 free:∀b o,h.get? b=u_ o->H b=U_->b∉ex->H' b=U_
 there:∀b o,h.get? b=u_ o->b∉ex->∃o',h'.get? b=u_ o'
 tups:∀b xs,H b=u_ (.tup xs)->H' b=u_ (.tup xs)
 frzs:∀b o u,H b=u_ (.frz o u)->H' b=u_ (.frz o u)
 tbls:∀b ps,H b=u_ (.tbl ps)->∃more,H' b=u_ (.tbl (ps++more))
section
variable {fs fs' ex ex':oj o3}{H H1 H2:Hp}{h h1 h2 h':o8}{a x e:o3}{o:HO}
theorem Un.any (u:Un fs ex H H1 h h1){ob:Obj}(q:h.get? b=u_ ob)(n:H b=U_)(O:b∉ex):∃sl,h1.get? b=u_ {ob with slots:=sl}:=by
 by_cases U:b∈fs
 ·exact u.slot b ob q n U O
 ·exact[ob.slots:u.keep b ob q n U O]
theorem Un.trans (a:Un fs ex H H1 h h1)(b:Un fs ex H1 H2 h1 h2):Un fs ex H H2 h h2 where
 keep:=λc ob q n Z O=>b.keep c ob (a.keep c ob q n Z O) (a.free c ob q n O) Z O
 slot:=λc ob q n Z O=>by
  erw[a.slot c ob q n Z O,sl,U];erw[b.slot c _ U (a.free c ob q n O) Z O,aa,e2];exact[aa:e2]
 free:=λc ob q n O=>by
  erw[a.there c ob q O,o',U];exact b.free c o' U (a.free c ob q n O) O
 there:=λc ob q O=>by
  erw[a.there c ob q O,o',U];exact b.there c o' U O
 tups:=λc xs q=>b.tups c xs (a.tups c xs q)
 frzs:=λc ob xs q=>b.frzs c ob xs (a.frzs c ob xs q)
 tbls:=λc ps q=>by
  erw[a.tbls c ps q,m1,U];erw[b.tbls c _ U,m2,e2];exact⟨m1++m2,by rw [e2,T9]⟩
theorem Un.kept (k:∀b u,h.get? b=u_ u->h'.get? b=u_ u):Un fs ex H H h h':=
 ⟨λb ob q _ _ _=>k b ob q,λb ob q _ _ _=>[ob.slots:k b ob q],λ_ _ _ n _=>n,λb ob q _=>[ob:k b ob q],λ_ _ q=>q,λ_ _ _ q=>q,λ_ ps q=>⟨#[],by rw [q];simp⟩⟩
theorem Un.refl:Un fs ex H H h h:=Un.kept λ_ _ q=>q
theorem Un.laid (k:∀b u,h.get? b=u_ u->h'.get? b=u_ u)(O:h.objs.size<=a)(hn:H a=U_):Un fs ex H (upd H a o) h h' where
 keep:=λb u q _ _ _=>k b u q
 slot:=λb u q _ _ _=>[u.slots:k b u q]
 free:=λb u q n _=>by rwa [qh (uS (Vo (uG q) O))]
 there:=λb u q _=>[u:k b u q]
 tups:=λb xs q=>by rwa [qh (ql q hn)]
 frzs:=λb u xs q=>by rwa [qh (ql q hn)]
 tbls:=λb ps q=>⟨#[],by rw [qh (ql q hn),q];simp⟩
theorem Un.write (mu:Mut (H x))(he:e=x∨H e=u_ (.own x))(k:∀b u,b≠e->h.get? b=u_ u->h'.get? b=u_ u)(U:∃u,h'.get? e=u_ u):Un fs ex H (upd H x o) h h':=by
 have Z:∀b,H b=U_->b≠x:=λb n z=>by subst z;rwa [n] at mu
 have hb:∀b,H b=U_->b≠e:=λb n z=>by
  subst z;rcases he with r|r
  ·exact Z b n r
  ·rw [n] at r;cases r
 have hm:∀b u,H b=u_ u->¬Mut (u_ u)->b≠x:=λb u q nm z=>by subst z;rw [q] at mu;exact nm mu
 refine⟨λb u q n _ _=>k b u (hb b n) q,λb u q n _ _=>[u.slots:k b u (hb b n) q],λb u q n _=>by rwa [qh (Z b n)],λb u q _=> ?_,
  λb xs q=>by rwa [qh (hm b _ q λz=>z)],λb u xs q=>by rwa [qh (hm b _ q λz=>z)],λb ps q=>⟨#[],by rw [qh (hm b _ q λz=>z),q];simp⟩⟩
 by_cases O:b=e
 ·subst O;exact U
 ·exact[u:k b u O q]
end
noncomputable def trk (h:o8)(H:Hp):oj o3:=(Vh h.objs.size).filter λa=>(H a).isSome
noncomputable def hidT (h:o8)(H:Hp):o8:=PySem.W.hideAll h (trk h H)
theorem hidT_size (h:o8)(H:Hp):(hidT h H).objs.size=h.objs.size:=PySem.W.hideAll_size _ _
variable {o:Obj}
theorem hidT_get (e:h.get? b=u_ o)(n:H b=U_):(hidT h H).get? b=u_ o:=
 PySem.W.hideAll_get _ e λhm=>by
  have q:(H b).isSome=true:=(Ah.mp hm).2;rw [n] at q;simp at q
theorem of_hidT (e:(hidT h H).get? b=u_ o):h.get? b=u_ o/\H b=none:=by
 have O:h.get? b=u_ o:=PySem.W.of_hideAll (trk h H) e;exists O;cases q:H b with
 |none=>rfl
 |some x=>
  have hm:b∈trk h H:=Ah.mpr ⟨List.mem_range.mpr (uG O),by simp [q]⟩
  have z:(hidT h H).get? b=none:=PySem.W.hideAll_none (trk h H) hm;rw [z] at e;cases e
structure Mod (K:o0)(mg:Str->om o6)(base:o8):Prop where
 kin:K.In base
 glob:base.Ns Vv mg
 blt:∃mb,base.Ns T1 mb/\∀x:Str,x≠"__name__"->mb x=Gi x
 nolimit:base.NoLimit
structure Cx where
 prog:o9
 w:og
 K:o0
 mg:Str->om o6
 base:o8
 A:oh
 N:oj Str
 s₀:o7
 H₀:Hp
 env:Env
 outer:oj Env
 stack:oj Env
 ex:oj o3
 fn:Str->Bool
 calm:Bool
 pn:oj (o3×Obj)
 xe:o6->o7->Prop
noncomputable def frs (l:oj Env):oj o3:=l.filterMap (·.frame)
noncomputable abbrev Cx.fs (X:Cx):oj o3:=frs X.outer
noncomputable def Vis (sc:Vt)(x:Str):Prop:=sc.names.lookup x=u_ .local∨sc.names.lookup x=u_ .cell∨sc.names.lookup x=u_ .free
noncomputable def Loc (sc:Vt)(x:Str):Prop:=sc.names.lookup x=u_ .local∨sc.names.lookup x=u_ .cell
noncomputable def Look (env:Env)(h:o8)(m:Str->om o6)(x:Str)(u:o6):Prop:=
 (env.kindOf x=u_ .local/\m x=u_ u)∨((env.kindOf x=u_ .cell∨env.kindOf x=u_ .free)/\∃c,env.cells.lookup x=u_ c/\h.IsCell c (u_ u))
structure Cx.Ok (X:Cx):Prop where
 mod:Mod X.K X.mg X.base
 kind:X.env.scope.kind= .function
 glob:X.env.globals=Vv
 blt:X.env.builtins=T1
 above:X.s₀.heap.objs.size<=X.env.locals
 inj:∀x y c,X.env.cells.lookup x=u_ c->X.env.cells.lookup y=u_ c->x=y
 has:∀x,(X.env.kindOf x=u_ .cell∨X.env.kindOf x=u_ .free)->∃c,X.env.cells.lookup x=u_ c
 cab:∀x c,X.fn x=v_->X.env.cells.lookup x=u_ c->X.s₀.heap.objs.size<=c
 hd:X.calm=v_->X.A.handled=U_
 frames:X.A.frames=u_ X.stack
 stk:X.stack=X.outer∨(X.stack=X.env::X.outer/\X.env.frame=u_ X.env.locals)
 exf:∀b∈X.ex,b≠X.env.locals/\∀x c,X.env.cells.lookup x=u_ c->c≠b
 bs:∀b o,X.base.get? b=u_ o->X.s₀.heap.get? b=u_ o/\X.H₀ b=U_
 bsz:X.base.objs.size<=X.s₀.heap.objs.size
 noex:∀b o,X.base.get? b=u_ o->b∉X.ex
 exfs:∀b∈X.ex,b∉X.fs
 funs:X.s₀.heap.FunFrames X.base X.outer
 frf:∀b∈X.fs,X.H₀ b=U_
structure Inv (X:Cx)(oq:oj (o3×Obj))(σ:oj (om V))(H:Hp)(s:o7):Prop where
 ok:X.Ok
 os:s.os=X.s₀.os
 bare:VO s.gens
 base:Un X.fs X.ex X.H₀ H X.s₀.heap s.heap
 loc:∃m,s.heap.Ns X.env.locals m/\∀(i:Nat) (x:Str) (v:V),X.N[i]? =u_ x->σ[i]? =u_ (u_ v)->Vis X.env.scope x->∃u,RelV v u/\Look X.env s.heap m x u
 cell:∀x c,X.env.cells.lookup x=u_ c->∃v,s.heap.IsCell c v
 free:H X.env.locals=U_
 freeC:∀x c,X.env.cells.lookup x=u_ c->H c=U_
 pin:∀p∈X.pn++oq,s.heap.get? p.1=u_ p.2/\H p.1=U_/\p.1≠X.env.locals/\p.1∉X.fs/\∀v,p.2.data≠ .cell v
 hok:HOk X.prog X.w H s.heap
 len:σ.length=X.N.length
 tk:0<s.toks
section
variable {X:Cx}{oq:oj (o3×Obj)}{σ:oj (om V)}{H H':Hp}{s:o7}{h':o8}
theorem Cx.Ok.nofr (ok:X.Ok)(e:X.base.get? b=u_ o):b∉X.fs:=λO=>by
 have:=(ok.funs.mem O).1;rw [e] at this;cases this
theorem Inv.bs (I:Inv X oq σ H s):∀b o,X.base.get? b=u_ o->s.heap.get? b=u_ o/\H b=none:=λb o e=>
 [I.base.keep b o (I.ok.bs b o e).1 (I.ok.bs b o e).2 (I.ok.nofr e) (I.ok.noex b o e):I.base.free b o (I.ok.bs b o e).1 (I.ok.bs b o e).2 (I.ok.noex b o e)]
theorem Inv.bk (I:Inv X oq σ H s):∀b o,X.base.get? b=u_ o->s.heap.get? b=u_ o:=λb o e=>(I.bs b o e).1
theorem Inv.mod (I:Inv X oq σ H s):Mod X.K X.mg X.base:=I.ok.mod
theorem Inv.kIn (I:Inv X oq σ H s):X.K.In s.heap:=I.ok.mod.kin.keeps I.bk
theorem Inv.lt (I:Inv X oq σ H s):X.env.locals<s.heap.objs.size:=let⟨_,hn,_⟩:=I.loc;hn.lt
theorem Inv.sz (I:Inv X oq σ H s):X.s₀.heap.objs.size<=s.heap.objs.size:=uM I.ok.above (Uv I.lt)
theorem Inv.nofs (I:Inv X oq σ H s)(h:s.heap.objs.size<=a):a∉X.fs:=λO=>by
 erw[I.ok.funs.mem O,_,o,U,_];exact absurd (Vo (uG U) (uM I.sz h)) (vD _)
theorem Inv.cne (I:Inv X oq σ H s):∀x c,X.env.cells.lookup x=u_ c->c≠X.env.locals:=λx c e z=>by
 erw[I.cell x c e,v,o,Z,hd];erw[I.loc,m,[o',es,ep,O,U,_],_];rw [z,O] at Z;cases Z;rw [U] at hd;cases hd
theorem Inv.funs (I:Inv X oq σ H s):s.heap.FunFrames X.base X.outer:=by
 have all:∀(l:oj Env),(∀b∈frs l,b∈X.fs)->X.s₀.heap.FunFrames X.base l->s.heap.FunFrames X.base l:=by
  intro l
  induction l with
  |nil=>intro _ _;trivial
  |cons env r ih=>
   intro hs hl;erw[hl,hk,[L,o,O,hn,ho,hd],hr];have U:L∈X.fs:=hs L (by unfold frs;rw [vW,O];exact ug)
   obtain⟨sl,e⟩:=I.base.slot L o ho (I.ok.frf L U) U λz=>I.ok.exfs L z U;exact⟨hk,⟨L,_,O,hn,e,hd⟩,ih (λb Z=>hs b (by unfold frs;rw [vW,O];exact ud _ Z)) hr⟩
 exact all X.outer (λ_ Z=>Z) I.ok.funs
theorem Inv.stack (I:Inv X oq σ H s):s.heap.FunFrames X.base X.stack:=by
 rcases I.ok.stk with e|⟨e,O⟩
 ·rw [e];exact I.funs
 ·rw [e];erw[I.loc,m,hn,_];refine .cons (by rw [I.ok.kind];decide) O hn ?_ I.funs
  exact Heap.get?_none_of_le (uM I.ok.bsz I.ok.above)
theorem Inv.stkSub (I:Inv X oq σ H s):∀b∈frs X.stack,b∈X.env.locals::X.fs:=λb O=>by
 rcases I.ok.stk with e|⟨e,U⟩
 ·rw [e] at O;exact ud _ O
 ·rw [e] at O;unfold frs at O;rwa [vW,U] at O
theorem Inv.stkFree (I:Inv X oq σ H s):∀b∈frs X.stack,H b=none:=λb O=>by
 rcases Ac.mp (I.stkSub b O) with e|O
 ·rw [e];exact I.free
 ·erw[I.ok.funs.mem O,_,o,U,_];exact I.base.free b o U (I.ok.frf b O) λz=>I.ok.exfs b z O
theorem Inv.step {g':Array tD}{t':Nat}{d':Drawn}{ch:oj o3}(I:Inv X oq σ H s)
  (U:∀b∈ch,(b∈X.ex∨X.s₀.heap.objs.size<=b)/\b≠X.env.locals/\(∀x c,X.env.cells.lookup x=u_ c->c≠b)/\∀p∈X.pn++oq,p.1≠b)
  (keep:∀b o,b≠X.env.locals->b∉X.fs->b∉ch->s.heap.get? b=u_ o->H b=U_->h'.get? b=u_ o)
  (slot:∀b o,b≠X.env.locals->b∈X.fs->b∉ch->s.heap.get? b=u_ o->H b=U_->∃sl,h'.get? b=u_ {o with slots:=sl}) (free:∀b o,b∉ch->s.heap.get? b=u_ o->H b=U_->H' b=U_)
  (there:∀b o,b∉ch->s.heap.get? b=u_ o->∃o',h'.get? b=u_ o')
  (tups:∀b xs,H b=u_ (.tup xs)->H' b=u_ (.tup xs)) (frzs:∀b o u,H b=u_ (.frz o u)->H' b=u_ (.frz o u)) (tbls:∀b ps,H b=u_ (.tbl ps)->∃more,H' b=u_ (.tbl (ps++more)))
  (ns:∀m,s.heap.Ns X.env.locals m->h'.Ns X.env.locals m) (hok:HOk X.prog X.w H' h') (hg:VO g') (ht:0<t':=by ac_rfl):
  Inv X oq σ H' {s with heap:=h',gens:=g',drawn:=d',toks:=t'}:=by
 have ad:∀b o,X.s₀.heap.get? b=u_ o->b≠X.env.locals:=λb o e=>uS (Vo (uG e) I.ok.above);have ac:∀b o,X.s₀.heap.get? b=u_ o->b∉X.ex->b∉ch:=λb o e O hb=>by
  rcases(U b hb).1 with z|z
  ·exact O z
  ·exact absurd (Vo (uG e) z) (vD _)
 have Z:∀x c,X.env.cells.lookup x=u_ c->∀v,s.heap.IsCell c v->h'.IsCell c v:=λx c e v ⟨o,ho,hd⟩=>by
  have aa:c∉ch:=λz=>(U c z).2.2.1 x c e rfl;by_cases hc:c∈X.fs
  ·erw[slot c o (I.cne x c e) hc aa ho (I.freeC x c e),sl,q];exact[_:q:hd]
  ·exact[o:keep c o (I.cne x c e) hc aa ho (I.freeC x c e):hd]
 refine⟨I.ok,I.os,hg,⟨λb o e n hb O=> ?_,λb o e n hb O=> ?_,λb o e n O=> ?_,λb o e O=> ?_,λb xs e=>tups b xs (I.base.tups b xs e),λb o xs e=>frzs b o xs (I.base.frzs b o xs e),λb ps e=> ?_⟩,?_,λx c e=> ?_,?_,λx c e=> ?_,λp hp=> ?_,hok,I.len,ht⟩
 ·exact keep b o (ad b o e) hb (ac b o e O) (I.base.keep b o e n hb O) (I.base.free b o e n O)
 ·erw[I.base.slot b o e n hb O,sl,e1];erw[slot b _ (ad b o e) hb (ac b o e O) e1 (I.base.free b o e n O),ae,e2];exact[ae:e2]
 ·erw[I.base.there b o e O,o',e1];exact free b o' (ac b o e O) e1 (I.base.free b o e n O)
 ·erw[I.base.there b o e O,o',e1];exact there b o' (ac b o e O) e1
 ·erw[I.base.tbls b ps e,m1,e1];erw[tbls b _ e1,m2,e2];exact⟨m1++m2,by rw [e2,T9]⟩
 ·erw[I.loc,m,hn,hl];refine[m:ns m hn:λi x v e1 e2 e3=> ?_];erw[hl i x v e1 e2 e3,u,r,l];exists u,r;rcases l with l|⟨k,c,e,z⟩
  ·exact .inl l
  ·exact .inr ⟨k,c,e,Z x c e _ z⟩
 ·erw[I.cell x c e,v,z];exact[v:Z x c e v z]
 ·erw[I.loc,m,[o,_,_,ho,_],_];exact free _ o (λz=>(U _ z).2.1 rfl) ho I.free
 ·erw[I.cell x c e,v,o,ho,hd];exact free c o (λz=>(U c z).2.2.1 x c e rfl) ho (I.freeC x c e)
 ·erw[I.pin p hp,e,n,ne,nf,d];have aa:p.1∉ch:=λz=>(U p.1 z).2.2.2 p hp rfl;exact⟨keep p.1 p.2 ne nf aa e n,free p.1 p.2 aa e n,ne,nf,d⟩
variable {t':Nat}
theorem Inv.un (I:Inv X oq σ H s)(u:Un X.fs [] H H' s.heap h')(hok:HOk X.prog X.w H' h')(ht:0<t':=by ac_rfl):Inv X oq σ H' {s with heap:=h',toks:=t'}:=by
 erw[id I.loc,m,[o,es,ep,ho,r],_];obtain⟨sl,hL⟩:=u.any ho I.free (by simp)
 exact I.step (g':=s.gens) (d':=s.drawn) (ch:= []) (λ_ z=>nomatch z) (λb o _ U _ e n=>u.keep b o e n U (by simp)) (λb o _ U _ e n=>u.slot b o e n U (by simp)) (λb o _ e n=>u.free b o e n (by simp)) (λb o _ e=>u.there b o e (by simp)) u.tups u.frzs u.tbls (λm' hm=>by
  erw[hm,o',Z,aa,O,r'];rw [ho] at O;cases O;exact⟨_,Z,aa,hL,r'⟩) hok I.bare
theorem Inv.call {g':Array tD}{t':Nat}{d':Drawn}{ch:oj o3}(I:Inv X oq σ H s)(u:Un (frs X.stack) ch H H' s.heap h')(hok:HOk X.prog X.w H' h')(hg:VO g')
  (U:∀b∈ch,(b∈X.ex∨X.s₀.heap.objs.size<=b)/\b≠X.env.locals/\(∀x c,X.env.cells.lookup x=u_ c->c≠b)/\∀p∈X.pn++oq,p.1≠b) (ht:0<t':=by ac_rfl):
  Inv X oq σ H' {s with heap:=h',gens:=g',drawn:=d',toks:=t'}:=by
 erw[id I.loc,m,[o,es,ep,ho,r],_];obtain⟨sl,hL⟩:=u.any ho I.free λz=>(U _ z).2.1 rfl;exact I.step (ch:=ch) U (λb o hL hb O e n=>u.keep b o e n (λz=>(Ac.mp (I.stkSub b z)).elim hL hb) O) (λb o _ _ O e n=>u.any e n O) (λb o O e n=>u.free b o e n O) (λb o O e=>u.there b o e O) u.tups u.frzs u.tbls (λm' hm=>by
  erw[hm,o',aa,ac,Z,r'];rw [ho] at Z;cases Z;exact⟨_,aa,ac,hL,r'⟩) hok hg
theorem Inv.turned {t':Nat}{it:o3}(I:Inv X oq σ H s)(k:∀b o,b≠it->s.heap.get? b=u_ o->h'.get? b=u_ o)(hn:H it=U_)(Z:it≠X.env.locals)
  (h1:it∈X.ex∨X.s₀.heap.objs.size<=it) (h2:∀x c,X.env.cells.lookup x=u_ c->c≠it) (h3:∀p∈X.pn++oq,p.1≠it) (ht:0<t':=by ac_rfl):Inv X oq σ H {s with heap:=h',toks:=t'}:=by
 have U:∀b u,H b=u_ u->b≠it:=λb u e z=>by rw [z,hn] at e;cases e
 refine I.step (g':=s.gens) (d':=s.drawn) (ch:= [it]) (λb hb=> ?_) (λb o _ _ O e _=>k b o (λz=>O (by simp [z])) e) (λb o _ _ O e _=>⟨o.slots,k b o (λz=>O (by simp [z])) e⟩) (λ_ _ _ _ n=>n)
  (λb o O e=>⟨o,k b o (λz=>O (by simp [z])) e⟩) (λ_ _ e=>e) (λ_ _ _ e=>e) (λb ps e=>⟨#[],by rw [e];simp⟩) (λm hm=> ?_) (λb u e=> ?_) I.bare
 ·have e:b=it:=by simpa using hb
  subst e;exact⟨h1,Z,h2,h3⟩
 ·erw[hm,o,es,ep,ho,r];exact⟨o,es,ep,k _ o (UG Z) ho,r⟩
 ·refine(I.hok b u e).stay (λc v O q=>k c v ?_ q) (λ_ q=>q) λ_ _ q=>q;rcases O with z|z
  ·rw [z];exact U b u e
  ·exact U c _ z
theorem Inv.tok (I:Inv X oq σ H s)(t:Nat)(O:0<t:=by ac_rfl):Inv X oq σ H {s with toks:=t}:=I.un (h':=s.heap) (t':=t) Un.refl I.hok
theorem Inv.kept (I:Inv X oq σ H s)(k:∀b u,s.heap.get? b=u_ u->h'.get? b=u_ u)(O:0<t':=by ac_rfl):Inv X oq σ H {s with heap:=h',toks:=t'}:=I.un (Un.kept k) (I.hok.kept k)
theorem Inv.laid {o:HO}(I:Inv X oq σ H s)(k:∀b u,s.heap.get? b=u_ u->h'.get? b=u_ u)(O:s.heap.objs.size<=a)(new:yc X.prog X.w (upd H a o) h' a o)(U:0<t':=by ac_rfl):
  Inv X oq σ (upd H a o) {s with heap:=h',toks:=t'}:=I.un (Un.laid k O (I.hok.fresh O)) (I.hok.laid k O new)
theorem Inv.write {x e:o3}{o:HO}{t':Nat}(I:Inv X oq σ H s)(mu:Mut (H x))(U:e=x∨H e=u_ (.own x))(k:∀b u,b≠e->s.heap.get? b=u_ u->h'.get? b=u_ u)(O:∃u,h'.get? e=u_ u)
  (new:yc X.prog X.w (upd H x o) h' x o) (Z:0<t':=by ac_rfl):Inv X oq σ (upd H x o) {s with heap:=h',toks:=t'}:=I.un (Un.write mu U k O) (I.hok.write mu U k O new)
theorem Inv.pins_of {O:oj (o3×Obj)}(I:Inv X oq σ H s)(h:∀p∈O,s.heap.get? p.1=u_ p.2/\H p.1=U_/\p.1≠X.env.locals/\p.1∉X.fs/\∀v,p.2.data≠ .cell v):Inv X O σ H s:=
 ⟨I.ok,I.os,I.bare,I.base,I.loc,I.cell,I.free,I.freeC,λp U=>(Af.mp U).elim (λz=>I.pin p (vH _ z)) (h p),I.hok,I.len,I.tk⟩
variable {j:Nat}{x:Str}
theorem nodup_ix {N:oj Str}(O:N.Nodup){i:Nat}(a:N[i]? =u_ x)(b:N[j]? =u_ x):i=j:=by
 erw[Ai.mp a,h1,U];erw[Ai.mp b,h2,Z];exact(List.getElem_inj O).mp (U.trans Z.symm)
theorem store_ok2 {M:GD}{A:oh}{E:o6->o7->Prop}{i:Nat}{x:Str}{v:V}{u:o6}{Q:Unit->o7->Prop}(I:Inv X oq σ H s)(hN:X.N.Nodup)(hi:X.N[i]? =u_ x)(hx:Loc X.env.scope x)(r:RelV v u)
  (h:∀s',Inv X oq (σ.set i (u_ v)) H s'->(∃a,GO a s.heap s'.heap/\(a=X.env.locals∨X.env.cells.lookup x=u_ a))->Q Go s') (hf:X.fn x=v_∨X.env.scope.names.lookup x=u_ .local:=by first|exact .inl rfl|exact .inr rfl|assumption):Va M A (GZ X.env x u) Q E s:=by
 erw[id I.loc,m,hn,hl];have ad:(X.env.scope.kind== .class||(X.env.scope.kind== .module&&X.env.locals !=X.env.globals))=false:=by rw [I.ok.kind];rfl
 have ae:i<σ.length:=by rw [I.len];exact(Ai.mp hi).1
 have cne:=I.cne;have U:∀{a:o3}{h':o8},(∃o,s.heap.get? a=u_ o/\H a=U_)->GO a s.heap h'->HOk X.prog X.w H h':=λ{a h'} ha O b ob e=>by
  erw[ha,_,_,aa];refine(I.hok b ob e).stay (λc w' hc q=>(O.2 c ?_).trans q) (λ_ q=>q) λ_ _ q=>q;rintro rfl;rcases hc with rfl|hc
  ·rw [aa] at e;cases e
  ·rw [aa] at hc;cases hc
 rcases hx with hk|hk
 ·refine Rz hk hn (λh' al O=> ?_) ad;erw[id hn,oL,_,_,am,_];refine h _ ⟨I.ok,I.os,I.bare,⟨λb o e n hb hx=> ?_,λb o e n hb hx=> ?_,I.base.free,λb o e hx=> ?_,I.base.tups,I.base.frzs,I.base.tbls⟩,[_:al:λj y v' Z e2 e3=> ?_],λy c e=> ?_,I.free,I.freeC,λp hp=> ?_,U [oL:am:I.free] O,by simpa using I.len,by first|exact I.tk|exact Tc _⟩ [_:O:.inl rfl]
  ·exact(O.2 b (uS (Vo (uG e) I.ok.above))).trans (I.base.keep b o e n hb hx)
  ·erw[I.base.slot b o e n hb hx,sl,Z];exact[sl:(O.2 b (uS (Vo (uG e) I.ok.above))).trans Z]
  ·erw[I.base.there b o e hx,o',Z];exact[o':(O.2 b (uS (Vo (uG e) I.ok.above))).trans Z]
  ·by_cases hj:j=i
   ·subst hj;rw [hi] at Z;cases Z;rw [Fc ae] at e2;cases e2;exact⟨u,r,.inl ⟨hk,by simp⟩⟩
   ·rw [Rq (UG hj)] at e2;erw[hl j y v' Z e2 e3,u',r',q];exists u',r';rcases q with⟨k,e⟩|⟨k,c,e,z⟩
    ·refine .inl [k:?_];have:y≠x:=λe=>hj (nodup_ix hN Z (e▸hi));simp [this,e]
    ·exact .inr ⟨k,c,e,z.sameBut O (cne y c e)⟩
  ·erw[I.cell y c e,w',z];exact[w':z.sameBut O (cne y c e)]
  ·erw[I.pin p hp,e,n,ne,nf,d];exact⟨(O.2 p.1 ne).trans e,n,ne,nf,d⟩
 ·have ac:X.fn x=true:=by
   rcases hf with z|z
   ·exact z
   ·rw [z] at hk;cases hk
  erw[I.ok.has x (.inl hk),c,hc];erw[I.cell x c hc,w',z];refine wpAny_storeName_cell I.ok.kind hk hc z (λh' af O=> ?_);erw[id z,oc,ag,ah];refine h {s with heap:=h'} ⟨I.ok,I.os,I.bare,⟨λb o e n hb hx=> ?_,λb o e n hb hx=> ?_,I.base.free,λb o e hx=> ?_,I.base.tups,I.base.frzs,I.base.tbls⟩,[m:hn.sameBut O (UG (cne x c hc)):λj y v' Z e2 e3=> ?_],λy c' e=> ?_,I.free,I.freeC,λp hp=> ?_,U [oc:ag:I.freeC x c hc] O,by simpa using I.len,by first|exact I.tk|exact Tc _⟩ [c:O:.inr hc]
  ·exact(O.2 b (uS (Vo (uG e) (I.ok.cab x c ac hc)))).trans (I.base.keep b o e n hb hx)
  ·erw[I.base.slot b o e n hb hx,sl,Z];exact[sl:(O.2 b (uS (Vo (uG e) (I.ok.cab x c ac hc)))).trans Z]
  ·erw[I.base.there b o e hx,o',Z];exact[o':(O.2 b (uS (Vo (uG e) (I.ok.cab x c ac hc)))).trans Z]
  ·by_cases hj:j=i
   ·subst hj;rw [hi] at Z;cases Z;rw [Fc ae] at e2;cases e2;exact[u:r:.inr ⟨.inl hk,c,hc,af⟩]
   ·rw [Rq (UG hj)] at e2;erw[hl j y v' Z e2 e3,u',r',q];exists u',r';rcases q with q|⟨k,c',e,z'⟩
    ·exact .inl q
    ·refine .inr ⟨k,c',e,z'.sameBut O ?_⟩;rintro rfl;exact hj (nodup_ix hN Z (I.ok.inj _ _ _ e hc▸hi))
  ·by_cases ak:c'=c
   ·subst ak;exact[_:af]
   ·erw[I.cell y c' e,w2,z2];exact[w2:z2.sameBut O ak]
  ·erw[I.pin p hp,e,n,ne,nf,d];refine⟨(O.2 p.1 ?_).trans e,n,ne,nf,d⟩;intro q;rw [q,ag] at e;have q':oc=p.2:=uK e;exact d w' (by rwa [<-q'])
theorem KQ {M:GD}{A:oh}{E:o6->o7->Prop}{i:Nat}{x:Str}{v:V}{u:o6}{Q:Unit->o7->Prop}(I:Inv X oq σ H s)(O:X.N.Nodup)(hi:X.N[i]? =u_ x)(U:Loc X.env.scope x)(r:RelV v u)
  (h:∀s',Inv X oq (σ.set i (u_ v)) H s'->Q Go s') (Z:X.fn x=v_∨X.env.scope.names.lookup x=u_ .local:=by first|exact .inl rfl|exact .inr rfl|assumption):Va M A (GZ X.env x u) Q E s:=
 store_ok2 I O hi U r (λs' I' _=>h s' I') Z
theorem Inv.call' {s':o7}{ch:oj o3}(I:Inv X oq σ H s)(U:s'.os=s.os)(u:Un (frs X.stack) ch H H' s.heap s'.heap)(hok:HOk X.prog X.w H' s'.heap)(Z:VO s'.gens)
  (O:∀b∈ch,(b∈X.ex∨X.s₀.heap.objs.size<=b)/\b≠X.env.locals/\(∀x c,X.env.cells.lookup x=u_ c->c≠b)/\∀p∈X.pn++oq,p.1≠b) (ht:0<s'.toks:=by ac_rfl):Inv X oq σ H' s':=by
 erw[s',h',g',d',t',o'];have e:o'=s.os:=U;subst e;exact I.call (g':=g') (t':=t') (d':=d') u hok Z O
end
noncomputable abbrev XK:=o6->om o3->Hp->Prop
noncomputable abbrev St:=oj (om V)
noncomputable abbrev VK:=V->Hp->Prop
noncomputable abbrev TE:=St->Hp->VK->Prop
noncomputable abbrev TT:=St->Hp->(Bool->Hp->Prop)->Prop
noncomputable abbrev TA:=St->Hp->(oj V->Hp->Prop)->Prop
structure Ends where
 nx:St->Hp->Prop
 rt:VK
 bk:St->Hp->Prop:=λ_ _=>False
 ct:St->Hp->Prop:=λ_ _=>False
noncomputable abbrev TS:=Ends->St->Hp->Prop
noncomputable def EP (X:Cx)(oq:oj (o3×Obj))(σ:St)(Q:VK)(u:o6)(s':o7):Prop:=∃v H',Inv X oq σ H' s'/\RelV v u/\Q v H'
noncomputable def TP (X:Cx)(oq:oj (o3×Obj))(σ:St)(Q:Bool->Hp->Prop)(b:Bool)(s':o7):Prop:=∃H',Inv X oq σ H' s'/\Q b H'
noncomputable def AP (X:Cx)(oq:oj (o3×Obj))(σ:St)(Q:oj V->Hp->Prop)(us:oj o6)(s':o7):Prop:=∃vs H',Inv X oq σ H' s'/\Vals vs us/\Q vs H'
noncomputable def SP (X:Cx)(oq:oj (o3×Obj))(D:Ends)(f:Flow)(s':o7):Prop:=
 match f with
 | .next=>∃σ' H',Inv X oq σ' H' s'/\D.nx σ' H'
 | .brk=>∃σ' H',Inv X oq σ' H' s'/\D.bk σ' H'
 | .cont=>∃σ' H',Inv X oq σ' H' s'/\D.ct σ' H'
 | .ret u=>∃v σ' H',Inv X oq σ' H' s'/\RelV v u/\D.rt v H'
noncomputable def PE (X:Cx)(e:Expr)(t:TE):Prop:=
 ∀(oq:oj (o3×Obj)) (s:o7) (σ:St) (H:Hp) (Q:VK),Inv X oq σ H s->t σ H Q->Va #[X,X] X.A (eval e X.env) (EP X oq σ Q) X.xe s
noncomputable def PT (X:Cx)(e:Expr)(t:TT):Prop:=
 ∀(oq:oj (o3×Obj)) (s:o7) (σ:St) (H:Hp) (Q:Bool->Hp->Prop),Inv X oq σ H s->t σ H Q->Va #[X,X] X.A (isTrue e X.env (eval e X.env)) (TP X oq σ Q) X.xe s
noncomputable def PW (X:Cx)(e:Expr)(t:TT):Prop:=
 ∀(whole:Sem o6) (oq:oj (o3×Obj)) (s:o7) (σ:St) (H:Hp) (Q:Bool->Hp->Prop),Inv X oq σ H s->t σ H Q->Va #[X,X] X.A (isTrue e X.env whole) (TP X oq σ Q) X.xe s
variable {X:Cx}
theorem PW.pt {e:Expr}{t:TT}(h:PW X e t):PT X e t:=h _
noncomputable def PA (X:Cx)(es:oj Expr)(t:TA):Prop:=
 ∀(pos:Pos) (oq:oj (o3×Obj)) (s:o7) (σ:St) (H:Hp) (Q:oj V->Hp->Prop),Inv X oq σ H s->t σ H Q->Va #[X,X] X.A (t_ (Vn pos (Ve es X.env))) (AP X oq σ Q) X.xe s
noncomputable def PS (X:Cx)(st:Stmt)(t:TS):Prop:=
 ∀(oq:oj (o3×Obj)) (s:o7) (σ:St) (H:Hp) (D:Ends),Inv X oq σ H s->t D σ H->Va #[X,X] X.A (exec st X.env) (SP X oq D) X.xe s
noncomputable def PSs (X:Cx)(st:oj Stmt)(t:TS):Prop:=
 ∀(oq:oj (o3×Obj)) (s:o7) (σ:St) (H:Hp) (D:Ends),Inv X oq σ H s->t D σ H->Va #[X,X] X.A (execs st X.env) (SP X oq D) X.xe s
variable {A:oh}{s:o7}
theorem thn {α:Type}{t:Sem α}{Q O:α->o7->Prop}{M:GD}{E:o6->o7->Prop}(h:Va M A t Q E s)(U:∀a s,Q a s->O a s):Va M A t O E s:=vS h U λ_ _ x=>x
section
variable {X:Cx}
inductive tVar (i:Nat) (σ:St) (H:Hp) (Q:VK):Prop
 |mk (v:_) (_:σ[i]? =u_ (u_ v)) (_:Q v H)
noncomputable def tC (v:V):TE:=λ_ H Q=>Q v H
variable {x:Str}
theorem pe_var {i:Nat}{pos:Pos}(hN:X.N[i]? =u_ x)(hv:Vis X.env.scope x)(hd:(x==("__debug__":Str))=false:=by decide)(Z:(x==("__classdict__":Str))=false:=by decide):PE X (.Name x pos) (tVar i):=by
 intro oq s σ H Q I h;erw[h,v,e,h];erw[I.loc,m,hn,hl];erw[hl i x v hN e hv,u,r,l];have fin:EP X oq σ Q u s:=⟨v,H,I,r,h⟩;rcases l with⟨U,hm⟩|⟨U,c,hc,O⟩
 ·exact T6 (Rc I.ok.kind U hn hm fin) hd
 ·rcases U with U|U
  ·exact T6 (Fa I.ok.kind U hc O fin) hd
  ·exact T6 (wpAny_loadName_free I.ok.kind U hc O fin Z) hd
theorem qi {i j pos}:PE X (.Constant (.int i) j pos) (tC (.int i)):=λ_ _ _ H _ I h=>wpAny_Constant_int ⟨.int i,H,I.tok _,⟨0⟩,h⟩
theorem Jh {b j pos}:PE X (.Constant (.bool b) j pos) (tC (.bl b)):=λ_ _ _ H _ I h=>Constant_bool ⟨.bl b,H,I,1,h⟩
theorem qW {j pos}:PE X (.Constant .none j pos) (tC .non):=λ_ _ _ H _ I h=>Constant_none ⟨.non,H,I,1,h⟩
theorem qk {x j pos}:PE X (.Constant (.str x) j pos) (tC (.str x)):=λ_ _ _ H _ I h=>Calls.Constant_str ⟨.str x,H,I.tok _,⟨0⟩,h⟩
noncomputable def Gl (X:Cx)(x:Str):Prop:=X.env.kindOf x=u_ .globalImplicit
theorem KK {E:o6->o7->Prop}{oq:oj (o3×Obj)}{s:o7}{σ:St}{H:Hp}{x:Str}{u:o6}{pos:Pos}{Q:o6->o7->Prop}(I:Inv X oq σ H s)(O:Gl X x)(hm:X.mg x=u_ u)(h:Q u s)
  (hd:(x==("__debug__":Str))=false:=by decide):Va #[X,X] X.A (eval (.Name x pos) X.env) Q E s:=
 R7 I.ok.kind O (Calls.loadGlobal_global (by rw [I.ok.glob];exact I.mod.glob.keeps I.bk) hm h) hd
theorem wy {E:o6->o7->Prop}{oq:oj (o3×Obj)}{s:o7}{σ:St}{H:Hp}{x:Str}{u:o6}{pos:Pos}{Q:o6->o7->Prop}(I:Inv X oq σ H s)(O:Gl X x)(hm:X.mg x=U_)(U:Gi x=u_ u)(h:Q u s)
  (hn:x≠"__name__":=by decide) (hd:(x==("__debug__":Str))=false:=by decide):Va #[X,X] X.A (eval (.Name x pos) X.env) Q E s:=by
 erw[I.mod.blt,mb,h1,h2];exact R7 I.ok.kind O (Calls.loadGlobal_builtin (by rw [I.ok.glob];exact I.mod.glob.keeps I.bk) hm (by rw [I.ok.blt];exact h1.keeps I.bk) ((h2 x hn).trans U) h) hd
variable {v:V}
theorem pe_glob {u:o6}{pos:Pos}(O:Gl X x)(hm:X.mg x=u_ u)(r:RelV v u)(hd:(x==("__debug__":Str))=false:=by decide):PE X (.Name x pos) (tC v):=
 λ_ _ _ H _ I h=>KK I O hm ⟨v,H,I,r,h⟩ hd
theorem Q6 {x:Str}{v:V}{u:o6}{pos:Pos}(O:Gl X x)(hm:X.mg x=U_)(U:Gi x=u_ u)(r:RelV v u)(hn:x≠"__name__")(hd:(x==("__debug__":Str))=V9):PE X (.Name x pos) (tC v):=
 λ_ _ _ H _ I h=>wy I O hm U ⟨v,H,I,r,h⟩ hn hd
variable {a b:Expr}{ta tb:TE}{pos:Pos}
noncomputable def PC (X:Cx)(op:Gy)(a b:Expr)(t:TE):Prop:=
 ∀(oq:oj (o3×Obj)) (s:o7) (σ:St) (H:Hp) (Q:VK),Inv X oq σ H s->t σ H Q->
  Va #[X,X] X.A (eval a X.env) (λv s₁=>Va #[X,X] X.A (eval b X.env) (λu s₂=>Va #[X,X] X.A (Vm op v u) (EP X oq σ Q) X.xe s₂) X.xe s₁) X.xe s
inductive ItB (Q:(Bool->Hp->Prop)) (x:V) (H1:Hp):Prop
 |mk (c:_) (_:x= .bl c) (_:Q c H1)
noncomputable def tB (t:TE):TT:=λσ H Q=>t σ H λx H1=>ItB Q x H1
theorem pt_cmp {O:Gy}{t:TE}(h:PC X O a b t)(h1:GH O b=V9):PT X (.Compare a [O] [b] pos) (tB t):=by
 intro oq s σ H Q I U;refine rV (thn (h oq s σ H _ I U) λv s1 h1=>thn h1 λu s2 h2=>thn h2 λc s3 zq=> ?_) h1;erw[zq,x,H1,Z,r1,q1];erw[q1,d,rfl,q];cases r1;exact vA [H1:Z:q]
theorem Qr {e:Expr}{t:TE}(h:PE X e t)(U:∀O,isTrue e X.env O=(do let v<-O;GT e.pos;G7 [v] (truthy v))):PT X e (tB t):=by
 intro oq s σ H Q I Z;refine Fu (thn (h oq s σ H _ I Z) λv s1 zq=> ?_) (U _);erw[zq,x,H1,I1,r1,q1];erw[q1,d,rfl,q];cases r1;exact vA [H1:I1:q]
variable {tA tB':TT}{rest:oj Expr}
noncomputable def tAnd (t u:TT):TT:=λσ H Q=>t σ H λc H1=>if c=v_ then u σ H1 Q else Q V9 H1
noncomputable def tOr (t u:TT):TT:=λσ H Q=>t σ H λc H1=>if c=v_ then Q v_ H1 else u σ H1 Q
noncomputable def tNot (t:TT):TT:=λσ H Q=>t σ H λc H1=>Q (!c) H1
theorem pw_and1 (ha:PT X a tA):PW X (.BoolOp .And [a] pos) tA:=by
 intro O oq s σ H Q I h;refine isTrue_and (thn (ha oq s σ H Q I h) λc s1 e=> ?_);cases c with
 |true=>exact isTrue_and_nil e
 |false=>exact e
theorem xa (ha:PT X a tA):PW X (.BoolOp .Or [a] pos) tA:=by
 intro O oq s σ H Q I h;refine isTrue_or (thn (ha oq s σ H Q I h) λc s1 e=> ?_);cases c with
 |false=>exact isTrue_or_nil e
 |true=>exact e
theorem pw_and (ha:PT X a tA)(U:PW X (.BoolOp .And (b::rest) pos) tB'):PW X (.BoolOp .And (a::b::rest) pos) (tAnd tA tB'):=by
 intro Z oq s σ H Q I h;refine isTrue_and (thn (ha oq s σ H _ I h) λc s1 zq=> ?_);erw[zq,H1,O,q1];cases c with
 |true=>exact U Z oq s1 σ H1 Q O q1
 |false=>exact[H1:O:q1]
theorem zp (ha:PT X a tA)(U:PW X (.BoolOp .Or (b::rest) pos) tB'):PW X (.BoolOp .Or (a::b::rest) pos) (tOr tA tB'):=by
 intro Z oq s σ H Q I h;refine isTrue_or (thn (ha oq s σ H _ I h) λc s1 zq=> ?_);erw[zq,H1,O,q1];cases c with
 |true=>exact[H1:O:q1]
 |false=>exact U Z oq s1 σ H1 Q O q1
theorem QE (ha:PT X a tA):PT X (.UnaryOp .Not a pos) (tNot tA):=by
 intro oq s σ H Q I h;exact isTrue_not (ha oq s σ H (λc H1=>Q (!c) H1) I h)
inductive ItAndV (tb:TE) (σ:St) (Q:VK) (x:V) (H1:Hp):Prop
 |mk (c:_) (_:x= .bl c) (_:if c=v_ then tb σ H1 Q else Q (.bl V9) H1)
noncomputable def tAndV (ta tb:TE):TE:=λσ H Q=>ta σ H λx H1=>ItAndV tb σ Q x H1
inductive ItOrV (tb:TE) (σ:St) (Q:VK) (x:V) (H1:Hp):Prop
 |mk (c:_) (_:x= .bl c) (_:if c=v_ then Q (.bl v_) H1 else tb σ H1 Q)
noncomputable def tOrV (ta tb:TE):TE:=λσ H Q=>ta σ H λx H1=>ItOrV tb σ Q x H1
theorem pe_one {op}{t:TE}(h:PE X a t):PE X (.BoolOp op [a] pos) t:=λoq s σ H Q I O=>BoolOp_one (h oq s σ H Q I O)
theorem pe_and (ha:PE X a ta)(U:PE X (.BoolOp .And (b::rest) pos) tb):PE X (.BoolOp .And (a::b::rest) pos) (tAndV ta tb):=by
 intro oq s σ H Q I h;refine BoolOp_and (thn (ha oq s σ H _ I h) λv s1 zq=> ?_);erw[zq,x,H1,O,Z,q1];erw[q1,c,rfl,q1];cases Z;refine vA ?_;cases c with
 |true=>exact U oq s1 σ H1 Q O q1
 |false=>exact⟨.bl V9,H1,O,1,q1⟩
theorem pe_or (ha:PE X a ta)(U:PE X (.BoolOp .Or (b::rest) pos) tb):PE X (.BoolOp .Or (a::b::rest) pos) (tOrV ta tb):=by
 intro oq s σ H Q I h;refine BoolOp_or (thn (ha oq s σ H _ I h) λv s1 zq=> ?_);erw[zq,x,H1,O,Z,q1];erw[q1,c,rfl,q1];cases Z;refine vA ?_;cases c with
 |false=>exact U oq s1 σ H1 Q O q1
 |true=>exact⟨.bl v_,H1,O,1,q1⟩
noncomputable def tIf (t:TT)(ta tb:TE):TE:=λσ H Q=>t σ H λc H1=>if c=v_ then ta σ H1 Q else tb σ H1 Q
theorem Q2 {c:Expr}(U:PT X c tA)(ha:PE X a ta)(Z:PE X b tb):PE X (.IfExp c a b pos) (tIf tA ta tb):=by
 intro oq s σ H Q I h;refine wpAny_IfExp (thn (U oq s σ H _ I h) λd s1 zq=> ?_);erw[zq,H1,O,q1];cases d with
 |true=>exact ha oq s1 σ H1 Q O q1
 |false=>exact Z oq s1 σ H1 Q O q1
end
noncomputable def SqL (K:o0)(H:Hp)(a:o3)(xs:oj V):Prop:=
 Rd H a (.lst xs)∨
  ∃(o:Obj) (its:Array o6) (n:Nat),K.lookup a=u_ o/\o.cls= .type "list"/\o.dict=U_/\o.data= .seq its n/\its.size<=Vb/\Vals xs its.toList
noncomputable def SqT (K:o0)(H:Hp)(a:o3)(xs:oj V):Prop:=
 Rd H a (.tup xs)∨
  ∃(o:Obj) (its:Array o6) (n:Nat),K.lookup a=u_ o/\o.cls= .type "tuple"/\o.data= .seq its n/\its.size<=Vb/\Vals xs its.toList
noncomputable def absV:o6->om V
 | .none=>u_ .non
 | .bool b=>u_ (.bl b)
 | .int i _=>u_ (.int i)
 | .str x _=>u_ (.str x)
 | .bytes b _=>u_ (.byt b)
 | .float b _=>u_ (.flt b)
 | .ref a=>u_ (.ref a)
 | .type n=>u_ (.ty n)
 |_=>U_
theorem RelV.abs {x:V}{u:o6}(r:RelV x u):absV u=u_ x:=by
 cases x with
 |non=>cases r;rfl
 |bl _=>cases r;rfl
 |int _=>erw[r,t,rfl];rfl
 |str _=>erw[r,t,rfl];rfl
 |byt _=>erw[r,t,rfl];rfl
 |flt _=>erw[r,t,rfl];rfl
 |ref _=>cases r;rfl
 |ty _=>cases r;rfl
variable {y:V}
theorem RelV.inj {x:V}{u:o6}(r:RelV x u)(q:RelV y u):x=y:=uK (r.abs.symm.trans q.abs)
theorem Vals.inj:∀{xs ys:oj V}{us:oj o6},Vals xs us->Vals ys us->xs=ys
 |_,_,_,.nil,.nil=>rfl
 |_,_,_,.cons r t,.cons r' t'=>by rw [r.inj r',Vals.inj t t']
section
variable {X:Cx}{oq:oj (o3×Obj)}{σ:St}{H:Hp}{s:o7}{a:o3}{xs ys:oj V}
variable {K:o0}
theorem SqL.of (h:H a=u_ (.lst xs)):SqL K H a xs:= .inl (.inl h)
theorem SqT.of (h:H a=u_ (.tup xs)):SqT K H a xs:= .inl (.inl h)
theorem Inv.list (I:Inv X oq σ H s)(h:SqL X.K H a xs):∃its:oj o6,Vals xs its/\PlainL s.heap a its.toArray/\xs.length<=sizeLine:=by
 rcases h with h|⟨o,its,n,O,U,hd,Z,hz,r⟩
 ·erw[h.ok I.hok,z,its,n,r,e];exact⟨its,r,⟨_,n,e,1,1,1⟩,z⟩
 ·exists its.toList,r,⟨o,n,I.kIn a o O,U,hd,by simpa using Z⟩
  have e:=r.length;simp![vo] at e;omega
theorem Inv.tuple (I:Inv X oq σ H s)(h:SqT X.K H a xs):∃its:oj o6,Vals xs its/\Gr s.heap a its.toArray/\xs.length<=sizeLine:=by
 rcases h with h|⟨o,its,n,O,U,Z,hz,r⟩
 ·erw[h.ok I.hok,z,its,r,p];exact⟨its,r,p,z⟩
 ·exists its.toList,r,⟨o,I.kIn a o O,U,n,by simpa using Z⟩
  have e:=r.length;simp![vo] at e;omega
theorem Inv.list_inj (I:Inv X oq σ H s)(h:SqL X.K H a xs)(h':SqL X.K H a ys):xs=ys:=by
 erw[I.list h,its,r,[o,n,e,_,_,d],_];erw[I.list h',its',U,[o',n',O,_,_,d'],_];rw [e] at O;cases O;rw [d] at d';injection d' with Z _
 have:its=its':=by simpa using congrArg Rx Z
 subst this;exact r.inj U
theorem Inv.tuple_inj (I:Inv X oq σ H s)(h:SqT X.K H a xs)(h':SqT X.K H a ys):xs=ys:=by
 erw[I.tuple h,its,r,[o,e,_,n,d],_];erw[I.tuple h',its',U,[o',O,_,n',d'],_];rw [e] at O;cases O;rw [d] at d';injection d' with Z _
 have:its=its':=by simpa using congrArg Rx Z
 subst this;exact r.inj U
end
noncomputable abbrev Cx.wish (X:Cx)(E:o6->o7->Prop):Cx:={X with xe:=E}
noncomputable abbrev Cx.nox (X:Cx):Cx:=X.wish λ_ _=>False
theorem Cx.Ok.wish (ok:X.Ok)(E:o6->o7->Prop):(X.wish E).Ok:=
 ⟨ok.mod,ok.kind,ok.glob,ok.blt,ok.above,ok.inj,ok.has,ok.cab,ok.hd,ok.frames,ok.stk,ok.exf,ok.bs,ok.bsz,ok.noex,ok.exfs,ok.funs,ok.frf⟩
theorem Cx.Ok.unwish {E:o6->o7->Prop}(ok:(X.wish E).Ok):X.Ok:=
 ⟨ok.mod,ok.kind,ok.glob,ok.blt,ok.above,ok.inj,ok.has,ok.cab,ok.hd,ok.frames,ok.stk,ok.exf,ok.bs,ok.bsz,ok.noex,ok.exfs,ok.funs,ok.frf⟩
section
variable {X:Cx}{oq:oj (o3×Obj)}{σ:St}{H:Hp}{s:o7}{E:o6->o7->Prop}
theorem Inv.wish (I:Inv X oq σ H s)(E:o6->o7->Prop):Inv (X.wish E) oq σ H s:=⟨I.ok.wish E,I.os,I.bare,I.base,I.loc,I.cell,I.free,I.freeC,I.pin,I.hok,I.len,I.tk⟩
theorem Inv.unwish (I:Inv (X.wish E) oq σ H s):Inv X oq σ H s:=⟨I.ok.unwish,I.os,I.bare,I.base,I.loc,I.cell,I.free,I.freeC,I.pin,I.hok,I.len,I.tk⟩
theorem SP.unwish {D:Ends}{f:Flow}{s':o7}(h:SP (X.wish E) oq D f s'):SP X oq D f s':=by
 cases f with
 |next=>erw[h,O,H',I,q];exact⟨O,H',I.unwish,q⟩
 |brk=>erw[h,O,H',I,q];exact⟨O,H',I.unwish,q⟩
 |cont=>erw[h,O,H',I,q];exact⟨O,H',I.unwish,q⟩
 |ret u=>erw[h,v,O,H',I,r,q];exact⟨v,O,H',I.unwish,r,q⟩
theorem PSs.nox {st:oj Stmt}{t:TS}(h:PSs X.nox st t):PSs X st t:=λoq s σ H D I hw=>
 vS (h oq s σ H D (I.wish _) hw) (λ_ _ q=>q.unwish) λ_ _ z=>VA z
end
section
variable {X:Cx}{st:Stmt}{rest:oj Stmt}{t u:TS}{e:Expr}{te:TE}{pos:Pos}
noncomputable def tNext:TS:=λD σ H=>D.nx σ H
noncomputable def tSeq (t u:TS):TS:=λD σ H=>t {D with nx:=u D} σ H
theorem qx:PSs X [] tNext:=λ_ _ σ H _ I h=>HI ⟨σ,H,I,h⟩
theorem qd (h1:PS X st t)(h2:PSs X rest u):PSs X (st::rest) (tSeq t u):=by
 intro oq s σ H D I h;refine FT (thn (h1 oq s σ H {D with nx:=u D} I h) λf s1 q=> ?_)
 cases f with
 |next=>
  erw[q,O,H',U,q];exact h2 oq s1 O H' D U q
 |ret v=>exact q
 |brk=>exact q
 |cont=>exact q
theorem qe (h1:PS X st t):PSs X [st] t:=by
 intro oq s σ H D I h;refine FT (thn (h1 oq s σ H D I h) λf s1 q=> ?_);cases f with
 |next=>exact HI q
 |ret v=>exact q
 |brk=>exact q
 |cont=>exact q
noncomputable def tBreak:TS:=λD σ H=>D.bk σ H
noncomputable def tCont:TS:=λD σ H=>D.ct σ H
theorem ps_pass:PS X (.Pass pos) tNext:=λ_ _ σ H _ I h=>wpAny_Pass ⟨σ,H,I,h⟩
theorem ps_break:PS X (.Break pos) tBreak:=λ_ _ σ H _ I h=>wpAny_Break ⟨σ,H,I,h⟩
theorem ps_continue:PS X (.Continue pos) tCont:=λ_ _ σ H _ I h=>wpAny_Continue ⟨σ,H,I,h⟩
variable {oq:oj (o3×Obj)}{σ:St}
theorem Inv.quiet (I:Inv X oq σ H s):RJ X.env=false:=by simp [RJ,I.ok.kind]
noncomputable def tDrop (te:TE):TS:=λD σ H=>te σ H λ_ H1=>D.nx σ H1
theorem qY (O:PE X e te)(U:GS e U_ pos.line X.env=pure V9):PS X (.Expr e pos) (tDrop te):=by
 intro oq s σ H D I h;exact wpAny_Expr_any (thn (O oq s σ H _ I h) λv s1 ⟨x,H1,Z,r1,q1⟩=>⟨σ,H1,Z,q1⟩) I.quiet U
noncomputable def tRet (te:TE):TS:=λD σ H=>te σ H D.rt
theorem qr (O:PE X e te):PS X (.Return (u_ e) pos) (tRet te):=by
 intro oq s σ H D I h;exact wpAny_Return_some (thn (O oq s σ H _ I h) λv s1 ⟨x,H1,U,Z,q1⟩=>⟨x,σ,H1,U,Z,q1⟩)
noncomputable def tRetN:TS:=λD _ H=>D.rt .non H
theorem ps_retN:PS X (.Return U_ pos) tRetN:=λ_ _ σ H _ I h=>wpAny_Return_none ⟨.non,σ,H,I,1,h⟩
noncomputable def tIfS (c:TT)(t u:TS):TS:=λD σ H=>c σ H λb H1=>if b=v_ then t D σ H1 else u D σ H1
theorem qL {c:Expr}{a b:oj Stmt}{tc:TT}(U:PT X c tc)(ha:PSs X a t)(Z:PSs X b u):PS X (.If c a b pos) (tIfS tc t u):=by
 intro oq s σ H D I h;refine wpAny_If (thn (U oq s σ H _ I h) λd s1 zq=> ?_);erw[zq,H1,O,q1];cases d with
 |true=>exact ha oq s1 σ H1 D O q1
 |false=>exact Z oq s1 σ H1 D O q1
noncomputable def tNever:TS:=λ_ _ _=>False
theorem YQ:PS X st tNever:=λ_ _ _ _ _ _ h=>h.elim
end
noncomputable abbrev TG:=V->St->Hp->(St->Hp->Prop)->Prop
noncomputable abbrev TGs:=oj V->St->Hp->(St->Hp->Prop)->Prop
noncomputable def PG (X:Cx)(target:Expr)(t:TG):Prop:=
 ∀(oq:oj (o3×Obj)) (s:o7) (σ:St) (H:Hp) (v:V) (u:o6) (Q:St->Hp->Prop),Inv X oq σ H s->RelV v u->t v σ H Q->
  Va #[X,X] X.A (VY target X.env u) (λ_ s'=>∃σ' H',Inv X oq σ' H' s'/\Q σ' H') X.xe s
noncomputable def PGs (X:Cx)(ts:oj Expr)(t:TGs):Prop:=
 ∀(oq:oj (o3×Obj)) (s:o7) (σ:St) (H:Hp) (vs:oj V) (us:oj o6) (Q:St->Hp->Prop),Inv X oq σ H s->Vals vs us->t vs σ H Q->
  Va #[X,X] X.A (assignInOrder ((VV ts X.env).map (·.2)) us) (λ_ s'=>∃σ' H',Inv X oq σ' H' s'/\Q σ' H') X.xe s
noncomputable abbrev TSet:=V->V->V->Hp->(Hp->Prop)->Prop
noncomputable def PSet (X:Cx)(t:TSet):Prop:=
 ∀(oq:oj (o3×Obj)) (s:o7) (σ:St) (H:Hp) (o i v:V) (ov iv u:o6) (Q:Hp->Prop),Inv X oq σ H s->RelV o ov->RelV i iv->RelV v u->t o i v H Q->
  Va #[X,X] X.A (Tt ov iv u) (λ_ s'=>∃H',Inv X oq σ H' s'/\Q H') X.xe s
noncomputable abbrev TIp:=V->V->Hp->VK->Prop
noncomputable def PIp (X:Cx)(op:GM)(t:TIp):Prop:=
 ∀(oq:oj (o3×Obj)) (s:o7) (σ:St) (H:Hp) (x y:V) (v u:o6) (Q:VK),Inv X oq σ H s->RelV x v->RelV y u->t x y H Q->
  Va #[X,X] X.A (HN op v u) (EP X oq σ Q) X.xe s
section
variable {X:Cx}{pos:Pos}
noncomputable def Jv (i:Nat):TG:=λv σ H Q=>Q (σ.set i (u_ v)) H
theorem qZ {i:Nat}{x:Str}(O:X.N.Nodup)(hi:X.N[i]? =u_ x)(U:Loc X.env.scope x)(Z:X.fn x=v_∨X.env.scope.names.lookup x=u_ .local):PG X (.Name x pos) (Jv i):=by
 intro oq s σ H v u Q I r h;exact TB (KQ I O hi U r (λs' I'=>⟨_,H,I',h⟩) Z)
noncomputable def gNil:TGs:=λvs σ H Q=>vs= []/\Q σ H
noncomputable def gCons (t:TG)(u:TGs):TGs:=λvs σ H Q=>∃v r,vs=v::r/\t v σ H λσ' H'=>u r σ' H' Q
theorem kK:PGs X [] gNil:=by
 intro oq s σ H vs us Q I r h;erw[h,e,h];subst e;cases r;exact assignInOrder_nil ⟨σ,H,I,h⟩
theorem Yp {e:Expr}{es:oj Expr}{t:TG}{u:TGs}(h1:PG X e t)(h2:PGs X es u)
  (O:(VV (e::es) X.env).map (·.2)=VY e X.env::(VV es X.env).map (·.2):=by rfl):PGs X (e::es) (gCons t u):=by
 intro oq s σ H vs us Q I r h;erw[h,v,vr,U,h];subst U;cases r with
 |cons r Z=>
  rw [O];refine assignInOrder_cons (thn (h1 oq s σ H _ _ _ I r h) λ_ s1 zq=> ?_);erw[zq,σ1,H1,I1,q1];exact h2 oq s1 σ1 H1 _ _ Q I1 Z q1
noncomputable def gTup (K:o0)(n:Nat)(t:TGs):TG:=λv σ H Q=>∃a xs,v= .ref a/\SqT K H a xs/\xs.length=n/\t xs σ H Q
theorem pg_tup {es:oj Expr}{k:Nat}{t:TGs}{n:Nat}(Z:X.calm=v_)(h:PGs X es t)
  (hn:(VV es X.env).length=n:=by rfl) (O:(VV es X.env).findIdx? (·.1)=none:=by rfl):PG X (.Tuple es k pos) (gTup X.K n t):=by
 intro oq s σ H v u Q I r U;erw[U,a,xs,e1,hq,hl,U];subst e1;cases r;erw[I.tuple hq,its,rv,ht,hz];refine assign_Tuple_tuple (I.ok.hd Z) ht (by simp [hn,<-hl,rv.length]) O λh' hx=> ?_
 have I1:Inv X oq σ H {s with heap:=h'}:=I.kept (t':=s.toks) λb o e=>hx b o (uS (uG e)) e
 exact h oq _ σ H xs _ Q I1 (by simpa using rv) U
noncomputable def gSub (to ti:TE)(t:TSet):TG:=λv σ H Q=>to σ H λo H1=>ti σ H1 λi H2=>t o i v H2 λH3=>Q σ H3
theorem pg_sub {o i:Expr}{to ti:TE}{t:TSet}(U:PE X o to)(hi:PE X i ti)(Z:PSet X t)
  (ha:∀v,VY (.Subscript o i pos) X.env v=(do
   let ov<-G7 [v] (eval o X.env)
   let O<-G7 [v,ov] (eval i X.env)
   GT pos
   G7 [v,ov,O] (Tt ov O v)
   release [v,ov,O] [])):PG X (.Subscript o i pos) (gSub to ti t):=by
 intro oq s σ H v u Q I r h;rw [ha];refine Ab (VH (thn (U oq s σ H _ I h) λov s1 zq=> ?_));erw[zq,x,H1,I1,r1,q1];refine Ab (VH (thn (hi oq s1 σ H1 _ I1 q1) λO s2 zq=> ?_));erw[zq,y,H2,I2,r2,q2];refine Ab (HC (Ab (VH (thn (Z oq s2 σ H2 x y v ov O u _ I2 r1 r2 r q2) λ_ s3 zq=> ?_))));erw[zq,H3,I3,q3];exact wpAny_release ⟨σ,H3,I3,q3⟩
noncomputable def tAsg (te:TE)(g:TG):TS:=λD σ H=>te σ H λx H1=>g x σ H1 D.nx
theorem ps_asg {tg e:Expr}{te:TE}{g:TG}(O:PE X e te)(U:PG X tg g)(Z:swapsWithSole [tg] e pos.line X.env=pure V9)(hw:swappedStores [tg] e X.env=pure U_)
  (h1:(VV [tg] X.env).map (·.2)= [VY tg X.env]):PS X (.Assign [tg] e pos) (tAsg te g):=by
 intro oq s σ H D I h;refine wpAny_Assign_stores (thn (O oq s σ H _ I h) λv s1 zq=> ?_) Z hw;erw[zq,x,H1,I1,r1,q1];rw [h1];exact thn (U oq s1 σ H1 x v _ I1 r1 q1) λ_ s2 q=>q
theorem qD {i:Nat}{x:Str}{e:Expr}{te:TE}{pos':Pos}(O:X.N.Nodup)(hi:X.N[i]? =u_ x)(U:Loc X.env.scope x)(Z:PE X e te)(hs:GS e (u_ (.Name x pos')) pos.line X.env=pure V9)(hf:X.fn x=v_∨X.env.scope.names.lookup x=u_ .local):
  PS X (.Assign [.Name x pos'] e pos) (tAsg te (Jv i)):=by
 intro oq s σ H D I h;refine wpAny_Assign_Name (thn (Z oq s σ H _ I h) λv s1 zq=> ?_) hs;erw[zq,y,H1,I1,r1,q1];exact KQ I1 O hi U r1 (λs2 I2=>⟨_,H1,I2,q1⟩) hf
inductive tAug (i:Nat) (te:TE) (ti:TIp) (D:Ends) (σ:St) (H:Hp):Prop
 |mk (x:_) (_:σ[i]? =u_ (u_ x)) (_:te σ H λy H1=>ti x y H1 λz H2=>D.nx (σ.set i (u_ z)) H2)
theorem ps_aug {i:Nat}{x:Str}{e:Expr}{te:TE}{Z:GM}{ti:TIp}{pos':Pos}(hN:X.N.Nodup)(hi:X.N[i]? =u_ x)(hx:Loc X.env.scope x)(he:PE X e te)(ho:PIp X Z ti)(hf:X.fn x=v_∨X.env.scope.names.lookup x=u_ .local):
  PS X (.AugAssign (.Name x pos') Z e pos) (tAug i te ti):=by
 intro oq s σ H D I h;erw[h,v,e1,h];erw[I.loc,m,hn,hl];have aa:Vis X.env.scope x:=by rcases hx with k|k;exact .inl k;exact .inr (.inl k)
 erw[hl i x v hi e1 aa,u,r,l];refine wpAny_AugAssign_Name ?_;have go:Va #[X,X] X.A (eval e X.env) (λw s₂=>Va #[X,X] X.A (HN Z u w) (λr s₃=>Va #[X,X] X.A (GZ X.env x r) (λ_=>SP X oq D .next) X.xe s₃) X.xe s₂) X.xe s:=by
  refine thn (he oq s σ H _ I h) λw s1 zq=> ?_;erw[zq,y,H1,I1,r1,q1];refine thn (ho oq s1 σ H1 v y u w _ I1 r r1 q1) λz s2 zq=> ?_;erw[zq,zv,H2,I2,r2,q2];exact KQ I2 hN hi hx r2 (λs3 I3=>⟨_,H2,I3,q2⟩) hf
 rcases l with⟨O,hm⟩|⟨O,c,hc,U⟩
 ·exact Rc I.ok.kind O hn hm go
 ·rcases O with O|O
  ·exact Fa I.ok.kind O hc U go
  ·rcases hx with k|k
   ·have:X.env.scope.names.lookup x=u_ .free:=O;rw [k] at this;cases this
   ·have:X.env.scope.names.lookup x=u_ .free:=O;rw [k] at this;cases this
noncomputable def ipI (f:Int->Int->Int):TIp:=λx y H Q=>∃i j,x= .int i/\y= .int j/\Q (.int (f i j)) H
theorem ip_add:PIp X .Add (ipI λi j=>i+j):=by
 intro oq s σ H x y v u Q I O U h;erw[h,i,j,Z,e2,q];subst Z;subst e2;erw[O,t,rfl];erw[U,t',rfl];exact iadd_int ⟨.int _,H,I.tok _,⟨0⟩,q⟩
noncomputable def tWhile (c:TT)(tb:TS):TS:=λD σ H=>∃W:Nat->St->Hp->Prop,(∃m,W m σ H)/\∀m σ H,W m σ H->
 c σ H λb H1=>if b=v_ then∃N:St->Hp->Prop,(∀σ' H',N σ' H'->∃m',m'<m/\W m' σ' H')/\tb {D with nx:=N,ct:=N,bk:=D.nx} σ H1 else D.nx σ H1
theorem jr {c:Expr}{O:oj Stmt}{tc:TT}{tb:TS}(hp:PassesOwn #[X,X] X.A X.env X.xe)(hc:PT X c tc)(hb:PSs X O tb):PS X (.While c O [] pos) (tWhile tc tb):=by
 intro oq s σ H D I h;erw[h,W,[m0,w0],turn];refine wpAny_While (codeAny_whileLoop (λn s'=>∃σ' H',Inv X oq σ' H' s'/\W n σ' H') ?_ m0 ⟨σ,H,I,w0⟩);rintro n s1 ⟨Z,H1,I1,w1⟩;refine Uc hp (thn (hc oq s1 Z H1 _ I1 (turn n Z H1 w1)) λb s2 zq=> ?_);erw[zq,H2,I2,q2];cases b with
 |true=>
  erw[q2,N,hN,q2];rw [Aa rfl];refine Uc hp (thn (hb oq s2 Z H2 _ I2 q2) λf s3 q3=> ?_);cases f with
  |next=>
   erw[q3,U,H3,I3,n3];erw[hN U H3 n3,m',hm,w3];exact⟨m',hm,U,H3,I3,w3⟩
  |cont=>
   erw[q3,U,H3,I3,n3];erw[hN U H3 n3,m',hm,w3];exact⟨m',hm,U,H3,I3,w3⟩
  |brk=>exact q3
  |ret v=>exact q3
 |false=>
  rw [A2 u5];exact HI ⟨Z,H2,I2,q2⟩
end
structure It where
 go:Nat->Hp->Prop
 yld:Nat->Hp->V->Hp->Prop
 stop:Nat->Hp->Prop
noncomputable def FpOk (X:Cx)(oq:oj (o3×Obj))(H:Hp)(b:o3):Prop:=
 H b=U_/\b≠X.env.locals/\b∉X.fs/\(b∈X.ex∨X.s₀.heap.objs.size<=b)/\(∀x c,X.env.cells.lookup x=u_ c->c≠b)/\∀p∈X.pn++oq,p.1≠b
variable {oq:oj (o3×Obj)}{σ:St}{H':Hp}
theorem Inv.fpOk (I:Inv X oq σ H s)(O:s.heap.objs.size<=b)(hn:H' b=U_):FpOk X oq H' b:=by
 refine⟨hn,Uw (Vo I.lt O),I.nofs O,.inr (uM I.sz O),λx c e z=> ?_,λp U z=> ?_⟩
 ·erw[I.cell x c e,v,q];exact absurd (Vo q.lt (by rwa [z])) (vD _)
 ·exact absurd (Vo (uG (I.pin p U).1) (by rwa [z])) (vD _)
structure Turn (P:o9)(w:og)(K:o0)(tg:Expr)(J:It)(fp:oj o3)(it:o3)(tn:Nat->o8->Prop):Prop where
 mem:it∈fp
 obj:∀i h,tn i h->∀b∈fp,∃o,h.get? b=u_ o/\∀v,o.data≠ .cell v
 keep:∀i h h',tn i h->(∀b∈fp,∀o,h.get? b=u_ o->h'.get? b=u_ o)->tn i h'
 item:∀(X:Cx),X.prog=P->X.w=w->X.K=K->X.calm=v_->∀(i:Nat) (oq:oj (o3×Obj)) (s:o7) (σ:St) (H:Hp) (E:o6->o7->Prop),Inv X oq σ H s->(∀b∈fp,FpOk X oq H b)->tn i s.heap->J.go i H->
  Va (Vq P w) X.A (gP (.ref it)) (λr s1=>∃u,r=u_ u/\
   Va (Vq P w) X.A (HH tg (.ref it) u) (λ_ s2=>∃x H',Inv X oq σ H' s2/\RelV x u/\J.yld i H x H'/\tn (i+1) s2.heap/\∀b∈fp,H' b=U_) E s1) E s
 done:∀(X:Cx),X.prog=P->X.w=w->X.K=K->X.calm=v_->∀(i:Nat) (oq:oj (o3×Obj)) (s:o7) (σ:St) (H:Hp) (E:o6->o7->Prop),Inv X oq σ H s->(∀b∈fp,FpOk X oq H b)->tn i s.heap->J.stop i H->
  Va (Vq P w) X.A (gP (.ref it)) (λr s1=>r=U_/\Inv X oq σ H s1) E s
 self:∀(A:oh) (i:Nat) (s:o7) (Q:o6->o7->Prop) (E:o6->o7->Prop),tn i s.heap->Q (.ref it) s->Va (Vq P w) A (Hs (.ref it)) Q E s
noncomputable abbrev TI:=St->Hp->(It->Hp->Prop)->Prop
noncomputable def PIE (X:Cx)(oq:oj (o3×Obj))(σ:St)(tg:Expr)(R:It->Hp->Prop)(itv:o6)(s2:o7):Prop:=
 ∃(it:o3) (fp:oj o3) (tn:Nat->o8->Prop) (J:It) (H':Hp),itv= .ref it/\Inv X oq σ H' s2/\Turn X.prog X.w X.K tg J fp it tn/\tn 0 s2.heap/\(∀b∈fp,FpOk X oq H' b)/\R J H'
noncomputable def PI (X:Cx)(tg iter:Expr)(wi:TI):Prop:=
 ∀(oq:oj (o3×Obj)) (s:o7) (σ:St) (H:Hp) (R:It->Hp->Prop),Inv X oq σ H s->wi σ H R->
  Va #[X,X] X.A (eval iter X.env) (λv s1=>Va #[X,X] X.A (Hs v) (PIE X oq σ tg R) X.xe s1) X.xe s
theorem go_of {M:GD}{A:oh}{E:o6->o7->Prop}{s:o7}{tg:Expr}{it:o3}{u:o6}{o:Obj}{n:String}{vs:Array o6}{Q:Unit->o7->Prop}(U:s.heap.get? it=u_ o)(Z:o.cls= .type n)(hd:o.data= .fields vs)
  (hn: ["enumerate","zip","dict_itemiterator","dict_reverseitemiterator","odict_iterator","itertools.zip_longest","itertools.pairwise"].contains n=V9) (O:Q Go s):Va M A (HH tg (.ref it) u) Q E s:=by
 unfold HH;cases tg<;>first
  |exact uE O
  |(cases u<;>first
    |exact uE O
    |(refine Ab (Hn U ?_)
      rw [Z,hd];show Va M A (if(["enumerate","zip","dict_itemiterator","dict_reverseitemiterator","odict_iterator","itertools.zip_longest","itertools.pairwise"].contains n&&vs[0]? ==u_ (V_ _))=v_ then _ else _) Q E s
      rw [A2 (by intro h;rw [hn,rG] at h;cases h)]
      exact uE O))
noncomputable def Itl (K:o0)(a:o3):It:=
 ⟨λi H=>∃xs x,SqL K H a xs/\xs[i]? =u_ x,λi H x H'=>H'=H/\∀xs,SqL K H a xs->xs[i]? =u_ x,λi H=>∃xs,SqL K H a xs/\xs.length<=i⟩
noncomputable def Itt (K:o0)(a:o3):It:=
 ⟨λi H=>∃xs x,SqT K H a xs/\xs[i]? =u_ x,λi H x H'=>H'=H/\∀xs,SqT K H a xs->xs[i]? =u_ x,λi H=>∃xs,SqT K H a xs/\xs.length<=i⟩
noncomputable def Itr (lo:Int)(n:Nat):It:=[λi _=>i<n:λi H x H'=>H'=H/\x= .int (lo+i):λi _=>n<=i]
variable {K:o0}{tg:Expr}
theorem turn_list {P:o9}(a it:o3):Turn P w K tg (Itl K a) [it] it (λi h=>h.IsListIter it a i) where
 mem:=by simp
 obj:=λi h st b O=>by
  have e:b=it:=by simpa using O
  subst e;erw[st,o,e,c,d];exact⟨o,e,λv z=>by rw [d] at z;cases z⟩
 keep:=λi h h' st k=>st.at λo e=>k it (by simp) o e
 item:=by
  intro X hP hw hK hc i oq s σ H E I Z st hg;subst hP hw hK;erw[hg,xs,x,hq,hx];erw[I.list hq,its,rv,p,hz];erw[rv.get hx,u,hu,ru];obtain⟨f0,f1,f2,f3,f4,f5⟩:=Z it (by simp)
  refine Fo st p.isList (x:=u) (by simpa using hu) λh' U sb=> ?_
  have I1:Inv X oq σ H {s with heap:=h'}:=I.turned (t':=s.toks) (λb o O e=>(sb.2 b O).trans e) f0 f1 f3 f4 f5
  erw[id U,o,e,c,d];exact⟨u,1,go_of (s:={s with heap:=h'}) e c d () ⟨x,H,I1,ru,⟨1,λys hy=>by rwa [I.list_inj hy hq]⟩,U,λb O=>(Z b O).1⟩⟩
 done:=by
  intro X hP hw hK hc i oq s σ H E I Z st hg;subst hP hw hK;erw[hg,xs,hq,hx];erw[I.list hq,its,rv,p,hz];obtain⟨f0,f1,f2,f3,f4,f5⟩:=Z it (by simp)
  have hl:=rv.length;exact rW (I.ok.hd hc) st p.isList (by simp;omega) λh' eb=>[1:I.turned (t':=s.toks) (λb o O e=>eb b o O e) f0 f1 f3 f4 f5]
 self:=λ_ _ _ _ _ st h=>wpAny_pyIter_listiter st h
theorem ko {P:o9}(a it:o3):Turn P w K tg (Itt K a) [it] it (λi h=>h.IsTupleIter it a i) where
 mem:=by simp
 obj:=λi h st b O=>by
  have e:b=it:=by simpa using O
  subst e;erw[st,o,e,c,d];exact⟨o,e,λv z=>by rw [d] at z;cases z⟩
 keep:=λi h h' st k=>st.at λo e=>k it (by simp) o e
 item:=by
  intro X hP hw hK hc i oq s σ H E I Z st hg;subst hP hw hK;erw[hg,xs,x,hq,hx];erw[I.tuple hq,its,rv,p,hz];erw[rv.get hx,u,hu,ru];obtain⟨f0,f1,f2,f3,f4,f5⟩:=Z it (by simp)
  refine wpAny_pyNext_tuple_item st (show s.heap.IsTuple a its.toArray from p) (x:=u) (by simpa using hu) λh' U sb=> ?_
  have I1:Inv X oq σ H {s with heap:=h'}:=I.turned (t':=s.toks) (λb o O e=>(sb.2 b O).trans e) f0 f1 f3 f4 f5
  erw[id U,o,e,c,d];exact⟨u,1,go_of (s:={s with heap:=h'}) e c d () ⟨x,H,I1,ru,⟨1,λys hy=>by rwa [I.tuple_inj hy hq]⟩,U,λb O=>(Z b O).1⟩⟩
 done:=by
  intro X hP hw hK hc i oq s σ H E I Z st hg;subst hP hw hK;erw[hg,xs,hq,hx];erw[I.tuple hq,its,rv,p,hz];obtain⟨f0,f1,f2,f3,f4,f5⟩:=Z it (by simp)
  have hl:=rv.length;exact wpAny_pyNext_tuple_end (I.ok.hd hc) st (show s.heap.IsTuple a its.toArray from p) (by simp;omega) λh' eb=>[1:I.turned (t':=s.toks) (λb o O e=>eb b o O e) f0 f1 f3 f4 f5]
 self:=λ_ _ _ _ _ st h=>wpAny_pyIter_tupleiter st h
theorem turn_range {P:o9}(it:o3)(lo:Int)(n:Nat):Turn P w K tg (Itr lo n) [it] it (λi h=>FA h it (lo+(i:Nat)*1) ((n:Int)-(i:Nat)) 1) where
 mem:=by simp
 obj:=λi h st b O=>by
  have e:b=it:=by simpa using O
  subst e;exact⟨_,st,λv z=>by
   have z':Data.fields _=Data.cell v:=z;cases z'⟩
 keep:=λi h h' st k=>k it (by simp) _ st
 item:=by
  intro X hP hw hK hc i oq s σ H E I Z st hg;subst hP hw hK;obtain⟨f0,f1,f2,f3,f4,f5⟩:=Z it (by simp)
  have W:=Walks.range (prog:=X.prog) (w:=X.w) (I.ok.hd hc) it lo 1 n;refine vh (n:=1) I.tk (W.item i s _ _ hg st λv h' tk hv U kk=> ?_);intro htk;erw[hv,t,rfl];have I1:Inv X oq σ H {s with heap:=h',toks:=tk}:=I.turned (λb o O e=>kk b o (by simpa using O) e) f0 f1 f3 f4 f5
  refine[0:go_of (s:={s with heap:=h',toks:=tk}) (n:="range_iterator") U rfl rfl () ⟨.int (lo+i),H,I1,[t:?_],[1:1],U,λb O=>(Z b O).1⟩]
  rw [Int.mul_one]
 done:=by
  intro X hP hw hK hc i oq s σ H E I Z st hg;subst hP hw hK;obtain⟨f0,f1,f2,f3,f4,f5⟩:=Z it (by simp)
  exact wpAny_pyNext_range_end (I.ok.hd hc) st (by have:n<=i:=hg;omega) λh' eb=>[1:I.turned (t':=s.toks) (λb o O e=>eb b o O e) f0 f1 f3 f4 f5]
 self:=λ_ _ _ _ _ st h=>wpAny_pyIter_rangeiter st h
section
variable {X:Cx}{tg:Expr}
inductive IiList (K:PySem.W.Frag) (R:(It->Hp->Prop)) (x:V) (H1:Hp):Prop
 |mk (a:_) (_:x= .ref a) (_:(∃xs,SqL K H1 a xs)) (_:R (Itl K a) H1)
noncomputable def iList (K:o0)(tl:TE):TI:=λσ H R=>tl σ H λx H1=>IiList K R x H1
inductive IiTup (K:PySem.W.Frag) (R:(It->Hp->Prop)) (x:V) (H1:Hp):Prop
 |mk (a:_) (_:x= .ref a) (_:(∃xs,SqT K H1 a xs)) (_:R (Itt K a) H1)
noncomputable def iTup (K:o0)(tl:TE):TI:=λσ H R=>tl σ H λx H1=>IiTup K R x H1
theorem pi_list {l:Expr}{tl:TE}(U:PE X l tl):PI X tg l (iList X.K tl):=by
 intro oq s σ H R I h;refine thn (U oq s σ H _ I h) λv s1 zq=> ?_;erw[zq,x,H1,O,Z,q1];erw[q1,a,e,[xs,hq],q];subst e;cases Z;erw[O.list hq,its,rv,p,hz];refine UW p.isList ?_;refine⟨s1.heap.objs.size,[s1.heap.objs.size],_,_,H1,1,O.kept (t':=s1.toks) λb o e=>ue _ e,turn_list a _,⟨_,uH _ rfl,1,1⟩,λb hb=> ?_,q⟩;have e:b=s1.heap.objs.size:=by simpa using hb
 subst e;exact O.fpOk (uj _) (O.hok.fresh (uj _))
theorem pi_tup {l:Expr}{tl:TE}(U:PE X l tl):PI X tg l (iTup X.K tl):=by
 intro oq s σ H R I h;refine thn (U oq s σ H _ I h) λv s1 zq=> ?_;erw[zq,x,H1,O,Z,q1];erw[q1,a,e,[xs,hq],q];subst e;cases Z;erw[O.tuple hq,its,rv,p,hz];refine tM (show s1.heap.IsTuple a its.toArray from p) ?_
 refine⟨s1.heap.objs.size,[s1.heap.objs.size],_,_,H1,1,O.kept (t':=s1.toks) λb o e=>ue _ e,ko a _,⟨_,uH _ rfl,1,1⟩,λb hb=> ?_,q⟩;have e:b=s1.heap.objs.size:=by simpa using hb
 subst e;exact O.fpOk (uj _) (O.hok.fresh (uj _))
theorem range_it {oq:oj (o3×Obj)}{σ:St}{H:Hp}{s:o7}{R:It->Hp->Prop}{E:o6->o7->Prop}{lo hi:Int}{t u v:Tok}{tk:Nat}(I:Inv X oq σ H s)(h1: -(2^62)<=lo)(h2:lo<2^62)(h3: -(2^62)<=hi)(h4:hi<2^62)
  (q:R (Itr lo (hi-lo).toNat) H) (htk:0<tk:=by ac_rfl):Va #[X,X] X.A (Hs (.ref s.heap.objs.size)) (PIE X oq σ tg R) E {s with heap:=s.heap.push {cls:= .type "range",data:= .fields #[.int lo t,.int hi u,.int 1 v]},toks:=tk}:=by
 refine wpAny_pyIter_range (IsRange.new ..) (small_one h1 h2 h3 h4) ?_;have O:Inv X oq σ H {s with heap:=s.heap.push {cls:= .type "range",data:= .fields #[.int lo t,.int hi u,.int 1 v]},toks:=tk}:=I.kept λb o e=>ue _ e
 refine⟨(s.heap.push {cls:= .type "range",data:= .fields #[.int lo t,.int hi u,.int 1 v]}).objs.size,[(s.heap.push {cls:= .type "range",data:= .fields #[.int lo t,.int hi u,.int 1 v]}).objs.size],_,_,H,1,
  O.kept (t':=tk) λb o e=>ue _ e,turn_range _ lo (hi-lo).toNat,?_,λb U=> ?_,q⟩
 ·have Z:lo+((0:Nat):Int)*1=lo:=by simp
  have e2:(((hi-lo).toNat:Nat):Int)-((0:Nat):Int)=RY lo hi 1:=by rw [rangeSize_one];split<;>omega
  show FA _ _ (lo+((0:Nat):Int)*1) ((((hi-lo).toNat:Nat):Int)-((0:Nat):Int)) 1;rw [Z,e2];exact uH _ rfl
 ·have e:b=(s.heap.push {cls:= .type "range",data:= .fields #[.int lo t,.int hi u,.int 1 v]}).objs.size:=by simpa using U
  subst e;exact O.fpOk (uj _) (O.hok.fresh (uj _))
inductive IiRng1 (R:(It->Hp->Prop)) (vs:List V) (H1:Hp):Prop
 |mk (j:Int) (_:vs= [.int j]) (_: -(2^62)<=j) (_:j<2^62) (_:R (Itr 0 j.toNat) H1)
noncomputable def iRng1 (ta:TA):TI:=λσ H R=>ta σ H λvs H1=>IiRng1 R vs H1
inductive IiRng2 (R:(It->Hp->Prop)) (vs:List V) (H1:Hp):Prop
 |mk (i j:Int) (_:vs= [.int i,.int j]) (_:(-(2^62)<=i/\i<2^62/\ -(2^62)<=j/\j<2^62)) (_:R (Itr i (j-i).toNat) H1)
noncomputable def iRng2 (ta:TA):TI:=λσ H R=>ta σ H λvs H1=>IiRng2 R vs H1
theorem yf {a:Expr}{ta:TA}{p pos:Pos}(O:Gl X "range")(hm:X.mg "range"=U_)(ha:PA X [a] ta)(U:Ve [a] X.env= [(V9,eval a X.env)]):PI X tg (.Call (.Name "range" p) [a] [] pos) (iRng1 ta):=by
 intro oq s σ H R I h;refine Call_ (wy I O hm boot_range (vE (thn (ha pos oq s σ H _ I h) λus s1 zq=> ?_) U rfl));erw[zq,vs,H1,Z,r1,q1];erw[q1,j,e,q1,q2,q];subst e;cases r1 with
 |cons r rr=>
  cases rr;erw[r,t,rfl];exact call_range_1 (range_it Z () () q1 q2 (by simpa using q))
theorem pi_range2 {a b:Expr}{ta:TA}{p pos:Pos}(Z:Gl X "range")(hm:X.mg "range"=U_)(ha:PA X [a,b] ta)(hs:Ve [a,b] X.env= [(V9,eval a X.env),(V9,eval b X.env)])(O:Ve [b] X.env= [(V9,eval b X.env)]):
  PI X tg (.Call (.Name "range" p) [a,b] [] pos) (iRng2 ta):=by
 intro oq s σ H R I h;refine Call_ (wy I Z hm boot_range (vE (thn (ha pos oq s σ H _ I h) λus s1 zq=> ?_) (by rw [hs,O]) (by rw [O];rfl)));erw[zq,vs,H1,I1,r1,q1]
 erw[q1,i,j,e,[q1,q2,q3,q4],q];subst e;cases r1 with
 |cons r U=>
  cases U with
  |cons r' U=>
   cases U;erw[r,t,rfl];erw[r',t',rfl];exact call_range_2 (range_it I1 q1 q2 q3 q4 q)
noncomputable def tFor (wi:TI)(g:TG)(tb:TS):TS:=λD σ H=>wi σ H λJ H1=>∃W:Nat->Nat->St->Hp->Prop,(∃m,W 0 m σ H1)/\∀i m σ H,W i m σ H->
 (J.stop i H/\D.nx σ H)∨(J.go i H/\∃N:St->Hp->Prop,(∀σ' H',N σ' H'->∃m',m'<m/\W (i+1) m' σ' H')/\∀x H',J.yld i H x H'->g x σ H' λσ2 H2=>tb {D with nx:=N,ct:=N,bk:=D.nx} σ2 H2)
noncomputable def pinsAt (fp:oj o3)(h:o8):oj (o3×Obj):=fp.filterMap λb=>(h.get? b).map λo=>(b,o)
variable {fp:oj o3}
theorem JI (O:b∈fp)(e:h.get? b=u_ o):(b,o)∈pinsAt fp h:=List.mem_filterMap.mpr ⟨b,O,by rw [e];rfl⟩
theorem of_pinsAt {p:o3×Obj}(O:p∈pinsAt fp h):p.1∈fp/\h.get? p.1=u_ p.2:=by
 erw[List.mem_filterMap.mp O,b,U,e];cases q:h.get? b with
 |none=>rw [q] at e;cases e
 |some o=>
  rw [q] at e;have Z:(b,o)=p:=uK e;subst Z;exact[U:q]
theorem Inv.pinned (I:Inv X oq σ H s)(Z:∀b∈fp,FpOk X oq H b)(ho:∀b∈fp,∃o,s.heap.get? b=u_ o/\∀v,o.data≠ .cell v):Inv X (oq++pinsAt fp s.heap) σ H s:=
 I.pins_of λp hp=>(Af.mp hp).elim (λz=>I.pin p (uP _ z)) λz=>by
  erw[of_pinsAt z,O,e];erw[Z p.1 O,f0,f1,f2,_];erw[ho p.1 O,o,U,d];rw [e] at U;cases U;exact⟨e,f0,f1,f2,d⟩
theorem Inv.unpinned {pl:oj (o3×Obj)}(I:Inv X (oq++pl) σ H s):Inv X oq σ H s:=I.pins_of λp O=>I.pin p (uP _ (vH _ O))
theorem jf {O:Expr}{ac:oj Stmt}{wi:TI}{g:TG}{tb:TS}{pos:Pos}(hp:PassesOwn #[X,X] X.A X.env X.xe)(hc:X.calm=v_)(hi:PI X tg O wi)(hg:PG X tg g)(U:PSs X ac tb)
  (hs:∀x,HL O X.env x=pure x):PS X (.For tg O ac [] pos) (tFor wi g tb):=by
 intro oq s σ H D I h;refine wpAny_For (thn (hi oq s σ H _ I h) λv s1 h1=>thn h1 λal s2 h2=> ?_) hs;erw[h2,it,fp,tn,J,H2,e,I2,T,ag,f2,W,[m0,w0],turn];subst e;have Z:∀{H':Hp},(∀b∈fp,H' b=U_)->∀b∈fp,FpOk X oq H' b:=λhn b U=>[hn b U:(f2 b U).2];refine codeAny_forLoop_any (λn s'=>∃i σ' H',Inv X oq σ' H' s'/\tn i s'.heap/\(∀b∈fp,H' b=U_)/\W i n σ' H') ?_ m0 ⟨(0),σ,H2,I2,ag,λb U=>(f2 b U).1,w0⟩;rintro n s3 ⟨i,σ3,H3,I3,ae,af,w3⟩;rcases turn i n σ3 H3 w3 with⟨stop,qn⟩|⟨go,N,hN,step⟩
 ·refine Uc hp (thn (T.done X rfl rfl rfl hc i oq s3 σ3 H3 X.xe I3 (Z af) ae stop) λr s4 zq=> ?_);erw[zq,hr,I4];subst hr;exact HI ⟨σ3,H3,I4,qn⟩
 ·refine Uc hp (thn (T.item X rfl rfl rfl hc i oq s3 σ3 H3 X.xe I3 (Z af) ae go) λr s4 zq=> ?_);erw[zq,u,hr,h4];subst hr;refine Uc hp (thn h4 λ_ s5 zq=> ?_);erw[zq,x,H5,I5,r5,y5,ad,ah];have ak:=I5.pinned (Z ah) (T.obj _ _ ad);refine Uc hp (thn (hg _ s5 σ3 H5 x u _ ak r5 (step x H5 y5)) λ_ s6 zq=> ?_);erw[zq,σ6,H6,I6,q6];refine Uc hp (thn (U _ s6 σ6 H6 _ I6 q6) λf s7 q7=> ?_);have aa:∀{σ7:St}{H7:Hp},Inv X (oq++pinsAt fp s5.heap) σ7 H7 s7->N σ7 H7->∃m,m<n/\∃i σ' H',Inv X oq σ' H' s7/\tn i s7.heap/\(∀b∈fp,H' b=U_)/\W i m σ' H':=λ{σ7 H7} I7 n7=>by
   erw[hN σ7 H7 n7,m',hm,w7];refine⟨m',hm,i+1,σ7,H7,I7.unpinned,T.keep _ _ _ ad λb U o e=>(I7.pin (b,o) (uP _ (uP _ (JI U e)))).1,λb U=> ?_,w7⟩;erw[T.obj _ _ ad b U,o,e,d];exact(I7.pin (b,o) (uP _ (uP _ (JI U e)))).2.1
  cases f with
  |next=>erw[q7,σ7,H7,I7,n7];exact aa I7 n7
  |cont=>erw[q7,σ7,H7,I7,n7];exact aa I7 n7
  |brk=>erw[q7,σ7,H7,I7,q7];exact⟨σ7,H7,I7.unpinned,q7⟩
  |ret v=>erw[q7,x7,σ7,H7,I7,r7,q7];exact⟨x7,σ7,H7,I7.unpinned,r7,q7⟩
end
theorem for_list {K:o0}{a:o3}{xs:oj V}{g:TG}{tb:TS}{D:Ends}{σ:St}{H:Hp}(O:Nat->St->Hp->Prop)(h0:O 0 σ H)(hl:∀i σ H,i<=xs.length->O i σ H->SqL K H a xs)
  (hs:∀i x σ H,xs[i]? =u_ x->O i σ H->g x σ H λZ H2=>tb {D with nx:=O (i+1),ct:=O (i+1),bk:=D.nx} Z H2) (hd:∀σ H,O xs.length σ H->D.nx σ H):
  ∃W:Nat->Nat->St->Hp->Prop,(∃m,W 0 m σ H)/\∀i m σ H,W i m σ H->
   ((Itl K a).stop i H/\D.nx σ H)∨((Itl K a).go i H/\∃N:St->Hp->Prop,(∀σ' H',N σ' H'->∃m',m'<m/\W (i+1) m' σ' H')/\∀x H',(Itl K a).yld i H x H'->g x σ H' λZ H2=>tb {D with nx:=N,ct:=N,bk:=D.nx} Z H2):=by
 exists λi m σ H=>m=xs.length-i/\i<=xs.length/\O i σ H,⟨xs.length,by simp,vf _,h0⟩
 rintro i m σ H ⟨rfl,hi,p⟩;have q:=hl i σ H hi p;by_cases U:i<xs.length
 ·refine .inr ⟨⟨xs,xs[i],q,by simp [U]⟩,O (i+1),λσ' H' p'=>⟨xs.length-(i+1),(),1,U,p'⟩,λx H' y=> ?_⟩
  erw[y,e,y];subst e;exact hs i x σ _ (y xs q) p
 ·have e:i=xs.length:=by omega
  subst e;exact .inl [[xs:q:uj _]:hd σ H p]
theorem KM {K:o0}{a:o3}{xs:oj V}{g:TG}{tb:TS}{D:Ends}{σ:St}{H:Hp}(O:Nat->St->Hp->Prop)(h0:O 0 σ H)(hl:∀i σ H,i<=xs.length->O i σ H->SqT K H a xs)
  (hs:∀i x σ H,xs[i]? =u_ x->O i σ H->g x σ H λZ H2=>tb {D with nx:=O (i+1),ct:=O (i+1),bk:=D.nx} Z H2) (hd:∀σ H,O xs.length σ H->D.nx σ H):
  ∃W:Nat->Nat->St->Hp->Prop,(∃m,W 0 m σ H)/\∀i m σ H,W i m σ H->
   ((Itt K a).stop i H/\D.nx σ H)∨((Itt K a).go i H/\∃N:St->Hp->Prop,(∀σ' H',N σ' H'->∃m',m'<m/\W (i+1) m' σ' H')/\∀x H',(Itt K a).yld i H x H'->g x σ H' λZ H2=>tb {D with nx:=N,ct:=N,bk:=D.nx} Z H2):=by
 exists λi m σ H=>m=xs.length-i/\i<=xs.length/\O i σ H,⟨xs.length,by simp,vf _,h0⟩
 rintro i m σ H ⟨rfl,hi,p⟩;have q:=hl i σ H hi p;by_cases U:i<xs.length
 ·refine .inr ⟨⟨xs,xs[i],q,by simp [U]⟩,O (i+1),λσ' H' p'=>⟨xs.length-(i+1),(),1,U,p'⟩,λx H' y=> ?_⟩
  erw[y,e,y];subst e;exact hs i x σ _ (y xs q) p
 ·have e:i=xs.length:=by omega
  subst e;exact .inl [[xs:q:uj _]:hd σ H p]
theorem ja {lo:Int}{n:Nat}{g:TG}{tb:TS}{D:Ends}{σ:St}{H:Hp}(O:Nat->St->Hp->Prop)(h0:O 0 σ H)
  (hs:∀i σ H,i<n->O i σ H->g (.int (lo+i)) σ H λZ H2=>tb {D with nx:=O (i+1),ct:=O (i+1),bk:=D.nx} Z H2) (hd:∀σ H,O n σ H->D.nx σ H):
  ∃W:Nat->Nat->St->Hp->Prop,(∃m,W 0 m σ H)/\∀i m σ H,W i m σ H->
   ((Itr lo n).stop i H/\D.nx σ H)∨((Itr lo n).go i H/\∃N:St->Hp->Prop,(∀σ' H',N σ' H'->∃m',m'<m/\W (i+1) m' σ' H')/\∀x H',(Itr lo n).yld i H x H'->g x σ H' λZ H2=>tb {D with nx:=N,ct:=N,bk:=D.nx} Z H2):=by
 exists λi m σ H=>m=n-i/\i<=n/\O i σ H,⟨n,by simp,vf _,h0⟩
 rintro i m σ H ⟨rfl,hi,p⟩;by_cases U:i<n
 ·refine .inr ⟨U,O (i+1),λσ' H' p'=>⟨n-(i+1),(),1,U,p'⟩,λx H' y=> ?_⟩
  erw[y,e,y];subst e y;exact hs i σ _ U p
 ·have e:i=n:=by omega
  subst e;exact .inl [uj _:hd σ H p]
noncomputable abbrev R2:=V->V->Hp->VK->Prop
noncomputable def OpR (X:Cx)(f:o6->o6->Sem o6)(r:R2):Prop:=
 ∀(oq:oj (o3×Obj)) (s:o7) (σ:St) (H:Hp) (x y:V) (v u:o6) (Q:VK),Inv X oq σ H s->RelV x v->RelV y u->r x y H Q->
  Va #[X,X] X.A (f v u) (EP X oq σ Q) X.xe s
noncomputable def UnR (X:Cx)(f:o6->Sem o6)(r:V->Hp->VK->Prop):Prop:=
 ∀(oq:oj (o3×Obj)) (s:o7) (σ:St) (H:Hp) (x:V) (v:o6) (Q:VK),Inv X oq σ H s->RelV x v->r x H Q->
  Va #[X,X] X.A (f v) (EP X oq σ Q) X.xe s
noncomputable def Y6 (X:Cx)(f:o6)(r:oj V->Hp->VK->Prop):Prop:=
 ∀(oq:oj (o3×Obj)) (s:o7) (σ:St) (H:Hp) (xs:oj V) (us:oj o6) (Q:VK),Inv X oq σ H s->Vals xs us->r xs H Q->
  Va #[X,X] X.A (call f us) (EP X oq σ Q) X.xe s
noncomputable def TruR (X:Cx)(r:V->Hp->(Bool->Hp->Prop)->Prop):Prop:=
 ∀(oq:oj (o3×Obj)) (s:o7) (σ:St) (H:Hp) (x:V) (v:o6) (Q:Bool->Hp->Prop),Inv X oq σ H s->RelV x v->r x H Q->
  Va #[X,X] X.A (truthy v) (TP X oq σ Q) X.xe s
noncomputable def tOp (r:R2)(ta tb:TE):TE:=λσ H Q=>ta σ H λx H1=>tb σ H1 λy H2=>r x y H2 Q
noncomputable def tUn (r:V->Hp->VK->Prop)(ta:TE):TE:=λσ H Q=>ta σ H λx H1=>r x H1 Q
inductive rI (C:Int->Int->Prop) (g:Int->Int->V) (x:V) (y:V) (H:Hp) (Q:VK):Prop
 |mk (i:_) (j:_) (_:x= .int i) (_:y= .int j) (_:C i j) (_:Q (g i j) H)
inductive rI0 (g:Int->Int->V) (x:V) (y:V) (H:Hp) (Q:VK):Prop
 |mk (i:_) (j:_) (_:x= .int i) (_:y= .int j) (_:Q (g i j) H)
inductive rU (g:Int->V) (x:V) (H:Hp) (Q:VK):Prop
 |mk (i:_) (_:x= .int i) (_:Q (g i) H)
section
variable {X:Cx}{a b c:Expr}{ta tb tc:TE}{pos:Pos}
theorem binT (ha:PE X a ta)(O:PE X b tb){oq:oj (o3×Obj)}{s:o7}{σ:St}{H:Hp}{R:V->V->Hp->Prop}(I:Inv X oq σ H s)
  (h:ta σ H λx H1=>tb σ H1 λy H2=>R x y H2) {Q:o6->o7->Prop}{f:o6->o6->Sem o6}
  (U:∀v u s2 x y H2,Inv X oq σ H2 s2->RelV x v->RelV y u->R x y H2->Va #[X,X] X.A (f v u) Q X.xe s2):
  Va #[X,X] X.A (eval a X.env) (λv Z=>Va #[X,X] X.A (eval b X.env) (λu s₂=>Va #[X,X] X.A (f v u) Q X.xe s₂) X.xe Z) X.xe s:=by
 refine thn (ha oq s σ H _ I h) λv s1 zq=> ?_;erw[zq,x,H1,I1,r1,q1];refine thn (O oq s1 σ H1 _ I1 q1) λu s2 zq=> ?_;erw[zq,y,H2,I2,r2,q2];exact U v u s2 x y H2 I2 r1 r2 q2
theorem qV {O:GM}{r:R2}(U:OpR X (VC O) r)(ha:PE X a ta)(Z:PE X b tb):PE X (.BinOp a O b pos) (tOp r ta tb):=by
 intro oq s σ H Q I h;exact wpAny_BinOp (binT ha Z I h λv u s2 x y H2 I2 rx ry q=>U oq s2 σ H2 x y v u Q I2 rx ry q)
theorem kT {O:UnaryOp}{r:V->Hp->VK->Prop}(U:UnR X (unaryOp O) r)(ha:PE X a ta):PE X (.UnaryOp O a pos) (tUn r ta):=by
 intro oq s σ H Q I h;exact UnaryOp_ (thn (ha oq s σ H _ I h) λv s1 ⟨x,H1,Z,r1,q1⟩=>U oq s1 σ H1 x v Q Z r1 q1)
theorem opI {f:o6->o6->Sem o6}{C:Int->Int->Prop}{g:Int->Int->Int}
  (rule:∀(i j:Int) (t u:Tok) (s:o7) (Q:o6->o7->Prop) (E:o6->o7->Prop),C i j->Q (.int (g i j) s.toks) {s with toks:=s.toks+1}->Va #[X,X] X.A (f (.int i t) (.int j u)) Q E s):
  OpR X f (rI C λi j=> .int (g i j)):=by
 intro oq s σ H x y v u Q I O U h;erw[h,i,j,rfl,rfl,Z,q];erw[O,t,rfl];erw[U,t',rfl];exact rule i j t t' s _ _ Z ⟨.int (g i j),H,I.tok _,⟨0⟩,q⟩
theorem opI0 {f:o6->o6->Sem o6}{g:Int->Int->Int}
  (rule:∀(i j:Int) (t u:Tok) (s:o7) (Q:o6->o7->Prop) (E:o6->o7->Prop),Q (.int (g i j) s.toks) {s with toks:=s.toks+1}->Va #[X,X] X.A (f (.int i t) (.int j u)) Q E s):
  OpR X f (rI0 λi j=> .int (g i j)):=by
 intro oq s σ H x y v u Q I O U h;erw[h,i,j,rfl,rfl,q];erw[O,t,rfl];erw[U,t',rfl];exact rule i j t t' s _ _ ⟨.int (g i j),H,I.tok _,⟨0⟩,q⟩
theorem opB0 {f:o6->o6->Sem o6}{g:Int->Int->Bool}
  (rule:∀(i j:Int) (t u:Tok) (s:o7) (Q:o6->o7->Prop) (E:o6->o7->Prop),Q (.bool (g i j)) s->Va #[X,X] X.A (f (.int i t) (.int j u)) Q E s):
  OpR X f (rI0 λi j=> .bl (g i j)):=by
 intro oq s σ H x y v u Q I O U h;erw[h,i,j,rfl,rfl,q];erw[O,t,rfl];erw[U,t',rfl];exact rule i j t t' s _ _ ⟨.bl (g i j),H,I,1,q⟩
noncomputable def CDiv (i j:Int):Prop:=0<j/\j<1073741824
noncomputable def CPow (i j:Int):Prop:=0<=j/\j<=1000000/\i.natAbs<2^64
noncomputable def CMul (i j:Int):Prop:=(-(2^64)<i/\i<2^64)∨(-(2^64)<j/\j<2^64)
variable {i:Int}
theorem CMul.ok {j:Int}(h:CMul i j):IntMulOk i j:=by
 rcases h with⟨h1,h2⟩|⟨h1,h2⟩
 ·exact .of_left (rp h1 h2)
 ·exact .of_right (rp h1 h2)
theorem QY:OpR X (VC .Add) (rI0 λi j=> .int (i+j)):=opI0 λ_ _ _ _ _ _ _ q=>add_int q
theorem op_sub:OpR X (VC .Sub) (rI0 λi j=> .int (i-j)):=opI0 λ_ _ _ _ _ _ _ q=>sub_int q
theorem kn:OpR X (VC .Mult) (rI CMul λi j=> .int (i*j)):=opI λ_ _ _ _ _ _ _ O q=>mul_int q O.ok
theorem op_fdiv:OpR X (VC .FloorDiv) (rI CDiv λi j=> .int (i/j)):=opI λi j _ _ _ _ _ O q=>by
 have h1:(0:Int)<j:=O.1;have h2:j<1073741824:=O.2;exact floordiv_int () (by rwa [Int.fdiv_eq_ediv_of_nonneg i ()]) (.inl (PyProof.noPylong_small ()))
theorem zN:OpR X (VC .Mod) (rI (λ_ j=>0<j) λi j=> .int (i%j)):=opI λi j _ _ _ _ _ O q=>by
 have h1:(0:Int)<j:=O;exact mod_int' () (by rwa [Int.fmod_eq_emod_of_nonneg i ()])
theorem op_pow:OpR X (VC .Pow) (rI CPow λi j=> .int (i^j.toNat)):=opI λ_ _ _ _ _ _ _ O q=>pow_int_small O.1 O.2.1 O.2.2 q
theorem unI {f:o6->Sem o6}{g:Int->Int}
  (rule:∀(i:Int) (t:Tok) (s:o7) (Q:o6->o7->Prop) (E:o6->o7->Prop),Q (.int (g i) s.toks) {s with toks:=s.toks+1}->Va #[X,X] X.A (f (.int i t)) Q E s):
  UnR X f (rU λi=> .int (g i)):=by
 intro oq s σ H x v Q I O h;erw[h,i,rfl,q];erw[O,t,rfl];exact rule i t s _ _ ⟨.int (g i),H,I.tok _,⟨0⟩,q⟩
theorem Xp:UnR X (unaryOp .USub) (rU λi=> .int (-i)):=unI λ_ _ _ _ _ q=>neg_int q
noncomputable def scal:V->V->Bool
 | .non,.non=>v_| .non,.int _=>v_| .int _,.non=>v_| .non,.bl _=>v_| .bl _,.non=>v_| .non,.str _=>v_| .str _,.non=>v_
 | .int _,.int _=>v_| .bl _,.bl _=>v_| .str _,.str _=>v_| .byt _,.byt _=>v_
 | .int _,.str _=>v_| .str _,.int _=>v_| .bl _,.str _=>v_| .str _,.bl _=>v_
 |_,_=>V9
def rEq:R2:=λx y H Q=>scal x y=v_/\Q (.bl (decide (x=y))) H
def rNe:R2:=λx y H Q=>scal x y=v_/\Q (.bl (!decide (x=y))) H
theorem dec_int {j:Int}:decide (V.int i=V.int j)=(i==j):=by
 rw [vR];simp
theorem dec_bl {i j:Bool}:decide (V.bl i=V.bl j)=(i==j):=by
 rw [vR];simp
theorem dec_str {i j:Str}:decide (V.str i=V.str j)=(i==j):=by
 rw [vR];simp
theorem dec_byt {i j:Array UInt8}:decide (V.byt i=V.byt j)=(i.toList==j.toList):=by
 rw [vR];cases i;cases j;simp
variable {Q:VK}
theorem Ql {k O:Bool}(I:Inv X oq σ H s)(q:Q (.bl k) H)(e:k=O):EP X oq σ Q (.bool O) s:=by
 subst e;exact⟨.bl k,H,I,1,q⟩
theorem QF:OpR X (Vm .Eq) rEq:=by
 intro oq s σ H x y v u Q I Z O h;erw[h,U,q];cases x with
 |non=>
  cases Z;cases y with
  |non=>cases O;exact PySem.EqNone.eq_none_none (Ql I q (by simp))
  |bl j=>cases O;exact PySem.EqNone.eq_none_bool (Ql I q (by simp))
  |int j=>erw[O,t',rfl];exact PySem.EqNone.eq_none_int (Ql I q (by simp))
  |str j=>erw[O,t',rfl];exact PySem.EqNone.eq_none_str (Ql I q (by simp))
  |_=>exact absurd (show V9=v_ from U) u5
 |bl i=>
  cases Z;cases y with
  |non=>cases O;exact PySem.EqNone.eq_bool_none (Ql I q (by simp))
  |bl j=>cases O;exact eq_bool (Ql I q dec_bl)
  |str j=>erw[O,t',rfl];exact PySem.EqMixed.eq_bool_str (Ql I q (by simp))
  |_=>exact absurd (show V9=v_ from U) u5
 |int i=>
  erw[Z,t,rfl];cases y with
  |non=>cases O;exact PySem.EqNone.eq_int_none (Ql I q (by simp))
  |int j=>erw[O,t',rfl];exact eq_int (Ql I q dec_int)
  |str j=>erw[O,t',rfl];exact PySem.EqMixed.eq_int_str (Ql I q (by simp))
  |_=>exact absurd (show V9=v_ from U) u5
 |str i=>
  erw[Z,t,rfl];cases y with
  |non=>cases O;exact PySem.EqNone.eq_str_none (Ql I q (by simp))
  |bl j=>cases O;exact PySem.EqMixed.eq_str_bool (Ql I q (by simp))
  |int j=>erw[O,t',rfl];exact PySem.EqMixed.eq_str_int (Ql I q (by simp))
  |str j=>erw[O,t',rfl];exact eq_str (Ql I q dec_str)
  |_=>exact absurd (show V9=v_ from U) u5
 |byt i=>
  erw[Z,t,rfl];cases y with
  |byt j=>erw[O,t',rfl];exact PySem.W.eq_bytes (Ql I q dec_byt)
  |_=>exact absurd (show V9=v_ from U) u5
 |_=>cases y<;>exact absurd (show V9=v_ from U) u5
theorem op_ne:OpR X (Vm .NotEq) rNe:=by
 intro oq s σ H x y v u Q I Z O h;erw[h,U,q];cases x with
 |non=>
  cases Z;cases y with
  |non=>cases O;exact PySem.EqNone.ne_none_none (Ql I q (by simp))
  |bl j=>cases O;exact PySem.EqNone.ne_none_bool (Ql I q (by simp))
  |int j=>erw[O,t',rfl];exact PySem.EqNone.ne_none_int (Ql I q (by simp))
  |str j=>erw[O,t',rfl];exact PySem.EqNone.ne_none_str (Ql I q (by simp))
  |_=>exact absurd (show V9=v_ from U) u5
 |bl i=>
  cases Z;cases y with
  |non=>cases O;exact PySem.EqNone.ne_bool_none (Ql I q (by simp))
  |bl j=>cases O;exact ne_bool (Ql I q (congrArg not dec_bl))
  |str j=>erw[O,t',rfl];exact PySem.EqMixed.ne_bool_str (Ql I q (by simp))
  |_=>exact absurd (show V9=v_ from U) u5
 |int i=>
  erw[Z,t,rfl];cases y with
  |non=>cases O;exact PySem.EqNone.ne_int_none (Ql I q (by simp))
  |int j=>erw[O,t',rfl];exact ne_int (Ql I q (congrArg not dec_int))
  |str j=>erw[O,t',rfl];exact PySem.EqMixed.ne_int_str (Ql I q (by simp))
  |_=>exact absurd (show V9=v_ from U) u5
 |str i=>
  erw[Z,t,rfl];cases y with
  |non=>cases O;exact PySem.EqNone.ne_str_none (Ql I q (by simp))
  |bl j=>cases O;exact PySem.EqMixed.ne_str_bool (Ql I q (by simp))
  |int j=>erw[O,t',rfl];exact PySem.EqMixed.ne_str_int (Ql I q (by simp))
  |str j=>erw[O,t',rfl];exact ne_str (Ql I q (congrArg not dec_str))
  |_=>exact absurd (show V9=v_ from U) u5
 |byt i=>
  erw[Z,t,rfl];cases y with
  |byt j=>erw[O,t',rfl];exact PySem.W.ne_bytes (Ql I q (congrArg not dec_byt))
  |_=>exact absurd (show V9=v_ from U) u5
 |_=>cases y<;>exact absurd (show V9=v_ from U) u5
theorem op_lt:OpR X (Vm .Lt) (rI0 λi j=> .bl (decide (i<j))):=opB0 λ_ _ _ _ _ _ _ q=>lt_int q
theorem op_le:OpR X (Vm .LtE) (rI0 λi j=> .bl (decide (i<=j))):=opB0 λ_ _ _ _ _ _ _ q=>le_int q
theorem op_gt:OpR X (Vm .Gt) (rI0 λi j=> .bl (decide (j<i))):=opB0 λ_ _ _ _ _ _ _ q=>gt_int q
theorem op_ge:OpR X (Vm .GtE) (rI0 λi j=> .bl (decide (j<=i))):=opB0 λ_ _ _ _ _ _ _ q=>ge_int q
theorem op_lt_str:OpR X (Vm .Lt) (λx y H Q=>∃i j,x= .str i/\y= .str j/\Q (.bl (decide (i.cps.toList<j.cps.toList))) H):=by
 intro oq s σ H x y v u Q I O U h;erw[h,i,j,rfl,rfl,q];erw[O,t,rfl];erw[U,t',rfl];exact lt_str (Ql I q rfl)
theorem op_in_str:OpR X (Vm .In) (λx y H Q=>∃i j,x= .str i/\y= .str j/\Q (.bl (!(GR j i 0 j.length 1).isEmpty)) H):=by
 intro oq s σ H x y v u Q I O U h;erw[h,i,j,rfl,rfl,q];erw[O,t,rfl];erw[U,t',rfl];exact in_str (Ql I q rfl)
theorem Yb:OpR X (Vm .Is) (λx y H Q=>y= .non/\Q (.bl (decide (x= .non))) H):=by
 intro oq s σ H x y v u Q I O U h;erw[h,rfl,q];cases U;refine is_none_gen (Ql I q ?_);cases x<;>first
  |(cases O;rfl)
  |(erw[O,t,rfl];rfl)
theorem Ki:OpR X (Vm .IsNot) (λx y H Q=>y= .non/\Q (.bl (!decide (x= .non))) H):=by
 intro oq s σ H x y v u Q I O U h;erw[h,rfl,q];cases U;refine isnot_none_gen (Ql I q ?_);cases x<;>first
  |(cases O;rfl)
  |(erw[O,t,rfl];rfl)
theorem qB (b:Expr){O:Gy}(h:O≠ .In:=by decide)(h2:O≠ .NotIn:=by decide):GH O b=false:=by
 have U:(O==CmpOp.In)=false:=by cases O<;>first|rfl|exact absurd rfl h
 have Z:(O==CmpOp.NotIn)=false:=by cases O<;>first|rfl|exact absurd rfl h2
 cases b<;>simp [GH,U,Z]
theorem yJ {O:Gy}{r:R2}(U:OpR X (Vm O) r)(ha:PE X a ta)(Z:PE X b tb)(hm:GH O b=V9):PE X (.Compare a [O] [b] pos) (tOp r ta tb):=by
 intro oq s σ H Q I h;exact wpAny_Compare1 (binT ha Z I h λv u s2 x y H2 I2 rx ry q=>U oq s2 σ H2 x y v u Q I2 rx ry q) hm
inductive ItTest (Q:(Bool->Hp->Prop)) (x:V) (H':Hp):Prop
 |mk (k:_) (_:x= .bl k) (_:Q k H')
def tTest (t:TE):TT:=λσ H Q=>t σ H λx H'=>ItTest Q x H'
theorem qp {O:Gy}{r:R2}(U:OpR X (Vm O) r)(ha:PE X a ta)(Z:PE X b tb)(hm:GH O b=V9):PT X (.Compare a [O] [b] pos) (tTest (tOp r ta tb)):=by
 intro oq s σ H Q I h;refine rV (thn (ha oq s σ H _ I h) λv s1 ⟨x,H1,I1,r1,q1⟩=>thn (Z oq s1 σ H1 _ I1 q1) λu s2 ⟨y,H2,I2,r2,q2⟩=>
  thn (U oq s2 σ H2 x y v u _ I2 r1 r2 q2) λc s3 ⟨z,H3,I3,r3,k,e,q3⟩=> ?_) hm
 subst e;cases r3;exact vA [H3:I3:q3]
def tChain (r r':R2)(ta tb tc:TE):TE:=λσ H Q=>ta σ H λx H1=>tb σ H1 λy H2=>r x y H2 λz H3=>∃k,z= .bl k/\
 (if k=v_ then tc σ H3 λw' H4=>r' y w' H4 Q else Q (.bl V9) H3)
theorem pt_chain {U O:Gy}{r r':R2}(ho:OpR X (Vm U) r)(Z:OpR X (Vm O) r')(ha:PE X a ta)(hb:PE X b tb)(hc:PE X c tc)
  (hm:lastMarks [U,O] [b,c]=V9):PT X (.Compare a [U,O] [b,c] pos) (tTest (tChain r r' ta tb tc)):=by
 intro oq s σ H Q I h;refine isTrue_chain (thn (ha oq s σ H _ I h) λv s1 ⟨x,H1,I1,r1,q1⟩=>test_link (thn (hb oq s1 σ H1 _ I1 q1) λu s2 ⟨y,H2,I2,r2,q2⟩=>
  thn (ho oq s2 σ H2 x y v u _ I2 r1 r2 q2) λd s3 ⟨z,H3,I3,r3,k,e,q3⟩=> ?_)) hm
 subst e;cases r3;refine vA ?_;cases k with
 |false=>
  erw[q3,k',e',q'];cases e';exact ite_ff [H3:I3:q']
 |true=>
  refine ite_tt (test_last (thn (hc oq s3 σ H3 _ I3 q3) λw' s4 ⟨z',H4,I4,r4,q4⟩=>thn (Z oq s4 σ H4 y z' u w' _ I4 r2 r4 q4) λd' s5 zq=> ?_));erw[zq,z2,H5,I5,r5,k2,e2,q5];subst e2;cases r5;exact vA [H5:I5:q5]
def TruV (K:o0)(x:V)(H:Hp)(k:Bool):Prop:=
 match x with
 | .non=>k=V9
 | .bl b=>k=b
 | .int i=>k=(i !=0)
 | .str y=>y.length<=Vb/\k=((y.length:Int) !=0)
 | .byt y=>y.size<=Vb/\k=((y.size:Int) !=0)
 | .ref p=>(∃xs,SqL K H p xs/\k= !xs.isEmpty)∨(∃xs,SqT K H p xs/\k= !xs.isEmpty)∨∃kvs,H p=u_ (.dK kvs)/\k= !kvs.isEmpty
 |_=>False
theorem isEmpty_kv {κ:Type}{kvs:oj (κ×V)}{vs:oj (κ×o6)}(r:KV kvs vs):(!vs.isEmpty)= !kvs.isEmpty:=by
 cases r<;>rfl
variable {its:oj o6}
theorem WF (r:Vals xs its):(!its.toArray.isEmpty)= !xs.isEmpty:=by
 cases r<;>simp
theorem zS:(Vb:Nat)<2^63:=by rw [uF];decide
theorem tru_ok:TruR X (λx H Q=>∃k,TruV X.K x H k/\Q k H):=by
 intro oq s σ H x v Q I Z h;erw[h,k,e,q];have hl:=zS;have hs:Vb=16777216:=uF;cases x with
 |non=>
  cases Z;have O:k=false:=e;subst O;exact truthy_none [H:I:q]
 |bl b=>
  cases Z;have O:k=b:=e;subst O;exact vA [H:I:q]
 |int i=>
  erw[Z,t,rfl];have O:k=(i !=0):=e;subst O;exact PySem.P.truthy_int [H:I:q]
 |str y=>
  erw[Z,t,rfl];obtain⟨hy,O⟩:y.length<=Vb/\k=((y.length:Int) !=0):=e;subst O;exact PySem.P.truthy_str () [H:I.tok _:q]
 |byt y=>
  erw[Z,t,rfl];obtain⟨hy,O⟩:y.size<=Vb/\k=((y.size:Int) !=0):=e;subst O;exact PySem.W.truthy_bytes () [H:I.tok _:q]
 |ref p=>
  cases Z;have O:(∃xs,SqL X.K H p xs/\k= !xs.isEmpty)∨(∃xs,SqT X.K H p xs/\k= !xs.isEmpty)∨∃kvs,H p=u_ (.dK kvs)/\k= !kvs.isEmpty:=e;rcases O with⟨xs,hx,O⟩|⟨xs,hx,O⟩|⟨kvs,hx,O⟩
  ·subst O;erw[I.list hx,its,r,pl,hz];have U:=r.length;exact wpAny_truthy_list pl.isList (by simp![uz];omega) ⟨H,I.tok _,by rwa [WF r]⟩
  ·subst O;erw[I.tuple hx,its,r,pl,hz];have U:=r.length;exact truthy_tuple pl (by simp![uz];omega) ⟨H,I.tok _,by rwa [WF r]⟩
  ·subst O;obtain⟨hz,hS,vs,r,m⟩:kvs.length<=Vb/\(p==Vu)=V9/\∃vs,KV kvs vs/\s.heap.DictOf (Qe X.prog X.w) p vs:=I.hok p _ hx;have U:kvs.length=vs.length:=Paired.length r;exact wpAny_truthy_dict hS m () ⟨H,I.tok _,by rwa [isEmpty_kv r]⟩
 |_=>exact(show False from e).elim
theorem pt_truth (ha:PE X a ta)(U:∀O,isTrue a X.env O=(do let v<-O;GT a.pos;G7 [v] (truthy v))):
  PT X a (λσ H Q=>ta σ H λx H'=>∃k,TruV X.K x H' k/\Q k H'):=by
 intro oq s σ H Q I h;exact Fu (thn (ha oq s σ H _ I h) λv s1 ⟨x,H1,Z,r1,q1⟩=>tru_ok oq s1 σ H1 x v Q Z r1 q1) (U _)
theorem Qd:OpR X (VC .Add) (λx y H Q=>∃i j,x= .str i/\y= .str j/\i.length+j.length<=Vb/\Q (.str (i++j)) H):=by
 intro oq s σ H x y v u Q I O U h;erw[h,i,j,rfl,rfl,Z,q];erw[O,t,rfl];erw[U,t',rfl];exact vh (n:=1) I.tk (add_str (λt' tk htk=>⟨.str (i++j),H,I.tok _,⟨0⟩,q⟩) Z)
theorem JR {x:V}(r:Vals [x] us):∃u,us= [u]/\RelV x u:=by
 cases r with
 |cons O U=>cases U;exact[0:O]
theorem vals2 {x:V}(r:Vals [x,y] us):∃u O,us= [u,O]/\RelV x u/\RelV y O:=by
 cases r with
 |cons U Z=>
  cases Z with
  |cons r3 r4=>cases r4;exact⟨_,0,U,r3⟩
theorem call_abs:Y6 X (.builtin "abs") (λxs H Q=>∃i,xs= [.int i]/\Q (.int (if i<0 then-i else i)) H):=by
 intro oq s σ H xs us Q I r h;erw[h,i,rfl,q];erw[JR r,u,rfl,t,rfl];exact vh (n:=1) I.tk (call_abs_int λu tk htk=>⟨.int (if i<0 then-i else i),H,I.tok _,⟨0⟩,q⟩)
theorem call_min2 (U:X.calm=v_):Y6 X (.builtin "min") (λxs H Q=>∃i j,xs= [.int i,.int j]/\Q (.int (if j<i then j else i)) H):=by
 intro oq s σ H xs us Q I r h;erw[h,i,j,rfl,q];erw[vals2 r,u,Z,rfl,[t,rfl],[t',rfl]];refine vh (n:=1) I.tk (min_two_ints (I.ok.hd U) λh' tk k htk=>⟨_,H,I.kept k,?_,q⟩);by_cases O:j<i
 ·rw [Aa O,Aa O];exact⟨0⟩
 ·rw [A2 O,A2 O];exact⟨0⟩
theorem call_int1:Y6 X (.type "int") (λxs H Q=>(∃i,xs= [.int i]/\Q (.int i) H)∨∃k,xs= [.bl k]/\Q (.int (if k then 1 else 0)) H):=by
 intro oq s σ H xs us Q I r h;rcases h with⟨i,rfl,q⟩|⟨k,rfl,q⟩
 ·erw[JR r,u,rfl,t,rfl];exact call_int_int ⟨.int i,H,I,⟨0⟩,q⟩
 ·erw[JR r,u,rfl,O];cases O;exact call_int_bool ⟨.int (if k then 1 else 0),H,I.tok _,⟨0⟩,q⟩
theorem Q0:Y6 X (.type "str") (λxs H Q=>∃i,xs= [.int i]/\i.natAbs.log2<1920/\Q (.str (Vk i)) H):=by
 intro oq s σ H xs us Q I r h;erw[h,i,rfl,O,q];erw[JR r,u,rfl,t,rfl];exact PySem.P.str_of_int O ⟨.str _,H,I.tok _,⟨0⟩,q⟩
theorem call_ord:Y6 X (.builtin "ord") (λxs H Q=>∃x,xs= [.str x]/\x.length=1/\Q (.int (x.cps.getD 0 0:Nat)) H):=by
 intro oq s σ H xs us Q I r h;erw[h,x,rfl,O,q];erw[JR r,u,rfl,t,rfl];exact ord_of_one O ⟨.int _,H,I.tok _,⟨0⟩,q⟩
def LenV (K:o0)(x:V)(H:Hp)(n:Nat):Prop:=
 match x with
 | .str y=>y.length<=Vb/\n=y.length
 | .byt y=>y.size<=Vb/\n=y.size
 | .ref p=>(∃xs,SqL K H p xs/\n=xs.length)∨∃xs,SqT K H p xs/\n=xs.length
 |_=>False
theorem KA:Y6 X (.builtin "len") (λxs H Q=>∃x n,xs= [x]/\LenV X.K x H n/\Q (.int n) H):=by
 intro oq s σ H xs us Q I r h;erw[h,x,n,rfl,e,q];erw[JR r,u,rfl,Z];have hl:=zS;have hs:Vb=16777216:=uF;cases x with
 |str y=>
  erw[Z,t,rfl];obtain⟨hy,U⟩:y.length<=Vb/\n=y.length:=e;subst U;exact len_str () ⟨.int _,H,I.tok _,⟨0⟩,q⟩
 |byt y=>
  erw[Z,t,rfl];obtain⟨hy,U⟩:y.size<=Vb/\n=y.size:=e;subst U;exact PySem.W.len_bytes () ⟨.int _,H,I.tok _,⟨0⟩,q⟩
 |ref p=>
  cases Z;have U:(∃xs,SqL X.K H p xs/\n=xs.length)∨∃xs,SqT X.K H p xs/\n=xs.length:=e;rcases U with⟨xs,hx,U⟩|⟨xs,hx,U⟩
  ·subst U;erw[I.list hx,its,r',pl,hz];have O:=r'.length;exact Rh pl.isList (by simp![uz];omega) ⟨.int xs.length,H,I.tok _,⟨_,by simp![uz];rw [O]⟩,q⟩
  ·subst U;erw[I.tuple hx,its,r',pl,hz];have O:=r'.length;exact len_tuple pl (by simp![uz];omega) ⟨.int xs.length,H,I.tok _,⟨_,by simp![uz];rw [O]⟩,q⟩
 |_=>exact(show False from e).elim
end
structure ObjM (h:o8)(x dx C:o3)(mA:Str->om o6):Prop where
 obj:h.get? x=u_ (PySem.W.instObj C dx)
 ns:h.Ns1 dx mA
 ne:dx≠x
variable {dx:o3}
theorem lookIn_ns {mA:Str->om o6}(n:h.Ns1 dx mA):∃od,h.get? dx=u_ od/\∀name,PySem.W.lookIn name od=u_ (mA name):=by
 erw[n,o,es,ep,U,hd,Z,_,hm];refine[o:U:λname=> ?_];have e:=hm name;unfold nsFind findBy at e;rw [<-Array.find?_toList] at e;unfold PySem.W.lookIn;rw [hd];dsimp only;split
 ·rename_i y q
  rw [q] at e;exact congrArg u_ e
 ·rename_i q
  rw [q] at e;have a:es.toList.any (·.refKey)=false:=by
   rw [T2];intro y hy;erw[Z y (Array.mem_toList_iff.mp hy),z,t,O];simp [rA,O]
  have a':¬es.toList.any (·.refKey)=true:=by rw [a];exact u5
  rw [A2 a'];exact congrArg u_ e
variable {C:o3}
theorem ObjM.look {x:o3}{mA:Str->om o6}(I:ObjM h x dx C mA):∃od,PySem.W.InstAt h x (PySem.W.instObj C dx) C (u_ od)/\∀name,PySem.W.lookIn name od=u_ (mA name):=
 let⟨od,ho,hl⟩:=lookIn_ns I.ns
 [od:⟨I.obj,1,1,ho⟩:hl]
section
variable {prog:o9}{w:og}{A:oh}{E:o6->o7->Prop}{s:o7}{K:o0}{x dx C f:o3}{mA:Str->om o6}{name:Str}{v:o6}
theorem get_map {O:Bool}{Q:o6->o7->Prop}(X:K.In s.heap)(I:ObjM s.heap x dx C mA)(Z:PySem.W.plainGet K C name=v_)(hh:PySem.W.hasDictIn K C=v_)
  (ha:PySem.W.findIn K (.ref C) name=u_ U_) (hv:mA name=u_ v) (U:PySem.W.handedIn v=v_) (h:Q v {s with toks:=s.toks+1}):
  Va #[w,w] A (HM (.ref x) name O) Q E s:=by
 erw[I.look,od,J,hl];exact PySem.W.get_value X J (PySem.W.plainGet_of Z).1 (PySem.W.findObj_own hh ha rfl (by rw [hl,hv])) U h
theorem get_meth {pl:Sem Bool}{Q:o6×oj o6->o7->Prop}(X:K.In s.heap)(I:ObjM s.heap x dx C mA)(O:PySem.W.plainGet K C name=v_)
  (U:PySem.W.findIn K (.ref C) name=u_ (u_ (.ref f))) (Z:PySem.W.isFn K (.ref f)=v_) (hv:mA name=U_) (h:Q (.ref f,[.ref x]) s):
  Va #[w,w] A (G_ (.ref x) name pl) Q E s:=by
 erw[I.look,od,J,hl];exact PySem.W.method_fn X J (PySem.W.plainGet_of O).1 (PySem.W.plainGet_of O).2 U (beq_iff_eq.mp Z) (by show(PySem.W.lookIn name od).map (·.isSome)=u_ V9;rw [hl,hv];rfl) h
theorem set_map {ns:oj Str}{Q:Unit->o7->Prop}(X:K.In s.heap)(I:ObjM s.heap x dx C mA)
  (hs:PySem.W.findIn K (.ref C) "__setattr__"=u_ (u_ (.builtin "object.__setattr__"))) (hp:PySem.W.plainOver K C=v_) (ht:PySem.W.takerIn K C name=u_ U_) (hh:PySem.W.hasDictIn K C=v_)
  (hw:PySem.Within mA ns) (hsz:ns.length<=Vb)
  (h:∀h',ObjM h' x dx C (λy=>if y=name then u_ v else mA y)->GO dx s.heap h'->Q Go {s with heap:=h',toks:=s.toks+2}):
  Va #[w,w] A (setAttr (.ref x) name v) Q E s:=by
 erw[I.look,od,J,hl];refine PySem.W.set_plain X J hs (PySem.W.osa_open (s:={s with toks:=s.toks+1}) (r:=U_) X J hp ht λb=> ?_)
 erw[PySem.W.any_some hh,cd,hc,Z];have hx:s.heap.get? x=u_ ⟨.ref C,u_ dx,.plain,#[]⟩:=I.obj;refine Ab (uE (Ab (Ab (wpAny_loadPart hx (Ab (PySem.W.Looks.here (s:={s with toks:=s.toks+1}) (PySem.W.looks_clsIn X hc) ?_))))))
 rw [Z];refine uE (a:=u_ dx) (Ab (uE (Ab ?_)));refine wpAny_nsSet1 (s:={s with toks:=s.toks+1}) I.ns λh' O U=> ?_
 erw[O.count (PySem.Within.cons name v hw),oD,ae,af,aa,ac,ad];refine Ab (wpAny_lookBehind aa (by rw [ac];exact pastItsLine_dict (uM ad (by rw [um];omega))) ?_)
 exact uE (h _ [(U.2 _ (UG I.ne)).trans I.obj:O:I.ne] U)
theorem make_map {R:Ge->o7->Prop}{vs:oj o6}{O:oj (Str×o6)}(X:K.In s.heap)(hm:PySem.W.makesIn K C=v_)
  (hi:PySem.W.findIn K (.ref C) "__init__"=u_ (u_ (.ref f))) (U:PySem.W.typeIn K (.ref f)=u_ (.type "function"))
  (h:VJ #[w,w] (A.under (.builtin "type.__call__" [.ref C::vs:O])) (.call (.ref f) [.ref (s.heap.objs.size+1)::vs:O]) (PySem.W.InitBack (s.heap.objs.size+1) R)
   {s with heap:=(s.heap.push PySem.W.emptyDict).push (PySem.W.instObj C s.heap.objs.size)}):
  VJ #[w,w] A (.call (.ref C) [vs:O]) R s:=by
 erw[s,Z,g,d,t,os];exact PySem.W.make_core (PySem.W.makes_of X hm) (PySem.W.looks_findIn X hi) (λself=>PySem.W.bind_fn X self U) (.inl rfl) h
end
def putF (f:Str)(v:V):oj (Str×V)->oj (Str×V)
 | []=> [(f,v)]
 |(g,x)::r=>if g=f then(g,v)::r else(g,x)::putF f v r
theorem qH (f g:Str)(v:V):∀fs:oj (Str×V),(putF f v fs).lookup g=if g=f then u_ v else fs.lookup g
 | []=>by
  show Vx g [(f,v)]=_;by_cases h:g=f
  ·have O:(g==f)=true:=beq_iff_eq.mpr h;simp![Vx,O,Aa h]
  ·have O:(g==f)=false:=beq_eq_false_iff_ne.mpr h;simp![Vx,O,A2 h]
 |(k,x)::r=>by
  have Z:=qH f g v r;rw [show putF f v ((k,x)::r)=(if k=f then(k,v)::r else(k,x)::putF f v r) from rfl]
  by_cases U:k=f
  ·rw [Aa U];by_cases h:g=k
   ·have O:(g==k)=true:=beq_iff_eq.mpr h;simp![Vx,O,Aa (h.trans U)]
   ·have O:(g==k)=false:=beq_eq_false_iff_ne.mpr h;simp![Vx,O,A2 (λe:g=f=>h (e.trans U.symm))]
  ·rw [A2 U];by_cases h:g=k
   ·have O:(g==k)=true:=beq_iff_eq.mpr h;simp![Vx,O,A2 (λe:g=f=>U (h.symm.trans e))]
   ·have O:(g==k)=false:=beq_eq_false_iff_ne.mpr h;simp![Vx,O];exact Z
theorem Z9 (f:Str)(v:V):∀fs:oj (Str×V),f∈(putF f v fs).map (·.1)/\∀g,g∈fs.map (·.1)->g∈(putF f v fs).map (·.1)
 | []=>⟨by simp [putF],λg h=>by simp at h⟩
 |(k,x)::r=>by
  erw[Z9 f v r,U,Z];rw [show putF f v ((k,x)::r)=(if k=f then(k,v)::r else(k,x)::putF f v r) from rfl]
  by_cases O:k=f
  ·rw [Aa O];subst O;exact⟨by simp,λg h=>by simpa using h⟩
  ·rw [A2 O];refine[?_:λg h=> ?_]
   ·rw [ui];exact ud _ U
   ·rw [ui] at h⊢;rcases Ac.mp h with e|e
    ·exact Ac.mpr (.inl e)
    ·exact ud _ (Z g e)
theorem Wf (f:Str)(v:V):∀fs:oj (Str×V),(putF f v fs).length<=fs.length+1
 | []=>by simp [putF]
 |(k,x)::r=>by
  have U:=Wf f v r;rw [show putF f v ((k,x)::r)=(if k=f then(k,v)::r else(k,x)::putF f v r) from rfl]
  by_cases O:k=f
  ·rw [Aa O,um,um];omega
  ·rw [A2 O,um,um];omega
variable {v:V}
theorem RelO.some_of {o:om o6}(r:RelO (u_ v) o):∃u,o=u_ u/\RelV v u:=by
 cases o with
 |none=>exact(show False from r).elim
 |some u=>exact[u:1:r]
theorem RelO.kW {o:om o6}(r:RelO U_ o):o=none:=by
 cases o with
 |none=>rfl
 |some u=>exact(show False from r).elim
theorem handed_of {u:o6}(r:RelV v u):PySem.W.handedIn u=true:=by
 cases v with
 |non=>cases(show u=VW from r);rfl
 |bl b=>cases(show u=Hv b from r);rfl
 |int i=>obtain⟨t,e⟩:=(show∃t,u=gT i t from r);cases e;rfl
 |str x=>obtain⟨t,e⟩:=(show∃t,u=Vy x t from r);cases e;rfl
 |byt b=>obtain⟨t,e⟩:=(show∃t,u=RA b t from r);cases e;rfl
 |flt b=>obtain⟨t,e⟩:=(show∃t,u=HK b t from r);cases e;rfl
 |ref a=>cases(show u=Vf a from r);rfl
 |ty n=>cases(show u=gS n from r);rfl
section
variable {P:o9}{w:og}{H H':Hp}{h h':o8}{a C dx:o3}{fs fs':oj (Str×V)}
theorem KG (hok:HOk P w H h)(e:H a=u_ (.ins C dx fs)):∃mA,ObjM h a dx C mA/\(∀f,RelO (fs.lookup f) (mA f))/\PySem.Within mA (fs.map (·.1))/\fs.length<=1000/\H dx=u_ (.own a):=by
 obtain⟨d,z,ne,ob,mA,n,r,q⟩:=(show yc P w H h a (.ins C dx fs) from hok a _ e)
 exact⟨mA,[ob:n:ne],r,q,z,d⟩
end
structure Cls (K:o0)(C:o3):Prop where
 pg:PySem.W.plainGet K C Ta=v_
 hd:PySem.W.hasDictIn K C=v_
 po:PySem.W.plainOver K C=v_
 sa:PySem.W.findIn K (.ref C) "__setattr__"=u_ (u_ (.builtin "object.__setattr__"))
theorem Cls.get (c:Cls K C)(f:Str):PySem.W.plainGet K C f=true:=c.pg
def QJ (K:o0)(C:o3)(f:Str):Prop:=PySem.W.findIn K (.ref C) f=u_ U_
theorem QJ.taker {f:Str}(n:QJ K C f):PySem.W.takerIn K C f=u_ none:=by
 unfold PySem.W.takerIn;rw [show PySem.W.findIn K (.ref C) f=u_ U_ from n]
 rfl
structure Meth (K:o0)(C:o3)(m:Str)(f:o3):Prop where
 at_:PySem.W.findIn K (.ref C) m=u_ (u_ (.ref f))
 fn:PySem.W.isFn K (.ref f)=v_
 kp:PySem.W.keepIn K (.ref f)=v_
section
variable {X:Cx}{oq:oj (o3×Obj)}{σ:St}{H:Hp}{s:o7}{a C dx:o3}{fs:oj (Str×V)}{f:Str}{v:V}{A:oh}{E:o6->o7->Prop}
theorem kC {b:Bool}{Q:o6->o7->Prop}(I:Inv X oq σ H s)(e:H a=u_ (.ins C dx fs))(c:Cls X.K C)(n:QJ X.K C f)(l:fs.lookup f=u_ v)
  (h:∀u s',Inv X oq σ H s'->RelV v u->Q u s'):Va #[X,X] A (HM (.ref a) f b) Q E s:=by
 erw[KG I.hok e,mA,O,r,_,_,_];obtain⟨u,U,ru⟩:=RelO.some_of (v:=v) (o:=mA f) (by rw [<-l];exact r f)
 exact get_map I.kIn O (c.get f) c.hd n U (handed_of ru) (h u _ (I.tok _) ru)
theorem W9 {m:Str}{g:o3}{pl:Sem Bool}{Q:o6×oj o6->o7->Prop}(I:Inv X oq σ H s)(e:H a=u_ (.ins C dx fs))(c:Cls X.K C)(k:Meth X.K C m g)(l:fs.lookup m=U_)
  (h:Q (.ref g,[.ref a]) s):Va #[X,X] A (G_ (.ref a) m pl) Q E s:=by
 erw[KG I.hok e,mA,O,r,_,_,_];have hn:mA m=none:=RelO.kW (by rw [<-l];exact r m)
 exact get_meth I.kIn O (c.get m) k.at_ k.fn hn h
theorem WY {y:V}{u:o6}{Q:Unit->o7->Prop}(I:Inv X oq σ H s)(e:H a=u_ (.ins C dx fs))(c:Cls X.K C)(n:QJ X.K C f)(hl:fs.length<1000)(ry:RelV y u)
  (h:∀s',Inv X oq σ (upd H a (.ins C dx (putF f y fs))) s'->Q Go s'):Va #[X,X] A (setAttr (.ref a) f u) Q E s:=by
 erw[KG I.hok e,mA,O,r,wi,_,Z];have hz:(fs.map (·.1)).length<=sizeLine:=by rw [uc,uF];omega
 refine set_map I.kIn O c.sa c.po n.taker c.hd wi hz λh' U sb=>h _ ?_;have hd:∃o,h'.get? dx=u_ o:=let⟨o,_,_,e',_⟩:=U.ns;[o:e'];refine I.write (x:=a) (e:=dx) (by rw [e];exact VF) (.inr Z) (λb q hb z=>(sb.2 b hb).trans z) hd ?_
 refine⟨by rwa [qh O.ne],?_,O.ne,U.obj,_,U.ns,λg=> ?_,λg hg=> ?_⟩
 ·have:=Wf f y fs;omega
 ·show RelO ((putF f y fs).lookup g) (if g=f then u_ u else mA g)
  rw [qH];by_cases q:g=f
  ·rwa [Aa q,Aa q]
  ·rw [A2 q,A2 q];exact r g
 ·by_cases q:g=f
  ·rw [q];exact(Z9 f y fs).1
  ·refine(Z9 f y fs).2 g (wi g λz=>hg ?_);show(if g=f then u_ u else mA g)=U_
   rw [A2 q];exact z
theorem Inv.made (I:Inv X oq σ H s):Inv X oq σ (upd (upd H s.heap.objs.size (.own (s.heap.objs.size+1))) (s.heap.objs.size+1) (.ins C s.heap.objs.size []))
  {s with heap:=(s.heap.push PySem.W.emptyDict).push (PySem.W.instObj C s.heap.objs.size)}:=by
 have O:(s.heap.push PySem.W.emptyDict).get? s.heap.objs.size=u_ PySem.W.emptyDict:=uH s.heap rfl;have U:((s.heap.push PySem.W.emptyDict).push (PySem.W.instObj C s.heap.objs.size)).get? (s.heap.objs.size+1)=u_ (PySem.W.instObj C s.heap.objs.size):=by
  have:=uH (s.heap.push PySem.W.emptyDict) (o:=PySem.W.instObj C s.heap.objs.size) rfl
  rwa [vt] at this
 have Z:(s.heap.push PySem.W.emptyDict).Ns s.heap.objs.size (λ_=>U_):=⟨PySem.W.emptyDict,#[],_,O,1,(λe he=>absurd he (by simp)),λ_=>rfl⟩
 have I1:=I.laid (a:=s.heap.objs.size) (o:= .own (s.heap.objs.size+1)) (h':=s.heap.push PySem.W.emptyDict) (t':=s.toks) (λb u q=>ue _ q) (uj _) [_:O];refine I1.laid (a:=s.heap.objs.size+1) (o:= .ins C s.heap.objs.size []) (t':=s.toks) (λb u q=>ue _ q) (rN (vt _ _)) ?_;have ne:s.heap.objs.size≠s.heap.objs.size+1:=uS (Tp _);refine⟨by rw [qh ne,qg],vf _,ne,U,λ_=>U_,(RW Z).at λo q=>ue _ q,λ_=>VF,λy hy=>absurd rfl hy⟩
theorem attr_of {prog:o9}{w:og}{env:Env}{e:Expr}{f:Str}{pos:Pos}{s:o7}{Q:o6->o7->Prop}(O:VZ e f env (eval e env)=eval e env)
  (h:Va #[w,w] A (eval e env) (λo U=>Va #[w,w] A (HM o f v_) Q E U) E s):Va #[w,w] A (eval (.Attribute e f pos) env) Q E s:=
 Attribute_any_ h (by rw [arm_eval_Attribute,O])
end
inductive ItFld (K:PySem.W.Frag) (f:Str) (Q:VK) (x:V) (H1:Hp):Prop
 |mk (a:_) (C:_) (dx:_) (fs:_) (v:_) (_:x= .ref a) (_:H1 a=u_ (.ins C dx fs)) (_:Cls K C) (_:QJ K C f) (_:fs.lookup f=u_ v) (_:Q v H1)
def tFld (K:o0)(ta:TE)(f:Str):TE:=λσ H Q=>ta σ H λx H1=>ItFld K f Q x H1
inductive IsFld (K:PySem.W.Frag) (f:Str) (D:Ends) (σ:St) (y:V) (x:V) (H2:Hp):Prop
 |mk (a:_) (C:_) (dx:_) (fs:_) (_:x= .ref a) (_:H2 a=u_ (.ins C dx fs)) (_:Cls K C) (_:QJ K C f) (_:fs.length<1000) (_:D.nx σ (upd H2 a (.ins C dx (putF f y fs))))
def sFld (K:o0)(ta tv:TE)(f:Str):TS:=λD σ H=>tv σ H λy H1=>ta σ H1 λx H2=>IsFld K f D σ y x H2
def InOp (X:Cx)(op:GM)(rd:V->V->Hp->VK->Prop):Prop:=
 ∀(oq:oj (o3×Obj)) (s:o7) (σ:St) (H:Hp) (x y:V) (u v:o6) (Q:VK),Inv X oq σ H s->RelV x u->RelV y v->rd x y H Q->Va #[X,X] X.A (HN op u v) (EP X oq σ Q) X.xe s
inductive IsFldAug (K:PySem.W.Frag) (tv:TE) (rd:V->V->Hp->VK->Prop) (f:Str) (D:Ends) (σ:St) (x:V) (H1:Hp):Prop
 |mk (a:_) (C:_) (dx:_) (fs:_) (v:_) (_:x= .ref a) (_:H1 a=u_ (.ins C dx fs)) (_:Cls K C) (_:QJ K C f) (_:fs.lookup f=u_ v) (_:tv σ H1 λy H2=>rd v y H2 λz H3=>∃dx' fs',H3 a=u_ (.ins C dx' fs')/\fs'.length<1000/\D.nx σ (upd H3 a (.ins C dx' (putF f z fs'))))
def sFldAug (K:o0)(ta tv:TE)(rd:V->V->Hp->VK->Prop)(f:Str):TS:=λD σ H=>ta σ H λx H1=>IsFldAug K tv rd f D σ x H1
section
variable {X:Cx}{o e value:Expr}{f:Str}{pos pos' tpos:Pos}{ta tv:TE}
theorem qO (O:PE X e ta)(U:VZ e f X.env (eval e X.env)=eval e X.env):PE X (.Attribute e f pos) (tFld X.K ta f):=by
 intro oq s σ H Q I h;refine attr_of U (thn (O oq s σ H _ I h) λu s1 zq=> ?_);erw[zq,x,H1,Z,rx,a,C,dx,fs,v,ex,ea,c,n,l,q];subst ex;obtain rfl:u=Vf a:=rx;exact kC Z ea c n l λu' s2 I2 ru=>⟨v,H1,I2,ru,q⟩
theorem Qg (ha:PE X o ta)(O:PE X value tv)(U:GS value (u_ (.Attribute o f pos')) pos.line X.env=pure V9):PS X (.Assign [.Attribute o f pos'] value pos) (sFld X.K ta tv f):=by
 intro oq s σ H D I h;refine plainObj_wpAny_Assign_Attribute (thn (O oq s σ H _ I h) λu s1 ⟨y,H1,Z,ry,q⟩=>thn (ha oq s1 σ H1 _ Z q) λov s2 zq=> ?_) U;erw[zq,x,H2,I2,rx,a,C,dx,fs,ex,ea,c,n,l,q2];subst ex;obtain rfl:ov=Vf a:=rx;exact WY I2 ea c n l ry λs3 I3=>⟨σ,_,I3,q2⟩
theorem Jx {Z:GM}{rd:V->V->Hp->VK->Prop}(ha:PE X o ta)(hv:PE X value tv)(O:InOp X Z rd):PS X (.AugAssign (.Attribute o f tpos) Z value pos) (sFldAug X.K ta tv rd f):=by
 intro oq s σ H D I h;refine wpAny_AugAssign_AttributeAny (thn (ha oq s σ H _ I h) λov s1 zq=> ?_);erw[zq,x,H1,I1,rx,a,C,dx,fs,v,ex,ea,c,n,l,q];subst ex;obtain rfl:ov=Vf a:=rx;refine kC I1 ea c n l λu s2 I2 ru=>thn (hv oq s2 σ H1 _ I2 q) λw3 s3 ⟨y,H2,I3,ry,q3⟩=>thn (O oq s3 σ H2 v y u w3 _ I3 ru ry q3) λw4 s4 zq=> ?_;erw[zq,z,H3,I4,rz,dx',fs',U,l',q4];exact WY I4 U c n l' rz λs5 I5=>⟨σ,_,I5,q4⟩
inductive rAdd (x:V) (y:V) (H:Hp) (Q:VK):Prop
 |mk (i:_) (j:_) (_:x= .int i) (_:y= .int j) (_:Q (.int (i+j)) H)
theorem in_add:InOp X .Add rAdd:=by
 rintro oq s σ H x y u v Q I O U ⟨i,j,rfl,rfl,q⟩;obtain⟨t,rfl⟩:=(show∃t,u=gT i t from O)
 obtain⟨t',rfl⟩:=(show∃t',v=gT j t' from U)
 exact pF ⟨.int (i+j),H,I.tok _,⟨0⟩,q⟩
end
section
variable {X:Cx}{oq:oj (o3×Obj)}{σ:St}{H:Hp}{s:o7}{A:oh}{E:o6->o7->Prop}{Q:o6->o7->Prop}{c:o6}{b:Bool}
inductive TyOf (K:PySem.W.Frag) (H:Hp):V->Value->Prop where
 |non:TyOf K H .non (.type "NoneType")
 |bl (x:Bool):TyOf K H (.bl x) (.type "bool")
 |int (i:Int):TyOf K H (.int i) (.type "int")
 |str (x:Str):TyOf K H (.str x) (.type "str")
 |flt (x:UInt64):TyOf K H (.flt x) (.type "float")
 |lst {a:Addr}{xs:List V} (e:H a=u_ (.lst xs)):TyOf K H (.ref a) (.type "list")
 |frz {a:Addr}{o:Obj}{xs:List V} (e:H a=u_ (.frz o (.lst xs))):TyOf K H (.ref a) (.type "list")
 |tup {a:Addr}{xs:List V} (e:H a=u_ (.tup xs)):TyOf K H (.ref a) (.type "tuple")
 |dK {a:Addr}{kvs:List (Key×V)} (e:H a=u_ (.dK kvs)):TyOf K H (.ref a) (.type "dict")
 |dT {a:Addr}{kvs:List (List Key×V)} (e:H a=u_ (.dT kvs)):TyOf K H (.ref a) (.type "dict")
 |ins {a C dx:Addr}{fs:List (Str×V)} (e:H a=u_ (.ins C dx fs)) (cl:Cls K C) (ha:PySem.W.findIn K (.ref C) "__class__"=u_ (u_ (.builtin "object.__class__")))
   (hn:PySem.W.specialIn K (.builtin "object.__class__") "__get__"=u_ (u_ (.builtin "getset_descriptor.__get__"))) (htk:PySem.W.takesIn K (.builtin "object.__class__")=u_ v_)
   (hm:PySem.W.mroIn K C (.type "object")=u_ v_):TyOf K H (.ref a) (.ref C)
theorem isinst_ok {x:V}{u t:o6}(I:Inv X oq σ H s)(U:RelV x u)(ty:TyOf X.K H x t)(e:PySem.W.kitOne X.K t c=u_ b)(h:∀tk,Q (.bool b) {s with toks:=tk}):
  Va #[X,X] A (call (.builtin "isinstance") [u,c]) Q E s:=by
 cases ty with
 |non=>cases(show u=VW from U);exact vw PySem.W.kitx_none I.kIn VF e (λz=>nomatch z) h
 |bl y=>cases(show u=Hv y from U);exact vw PySem.W.kitx_bool I.kIn VF e (λz=>nomatch z) h
 |int i=>obtain⟨t,q⟩:=(show∃t,u=gT i t from U);cases q;exact vw PySem.W.kitx_int I.kIn VF e (λz=>nomatch z) h
 |str y=>obtain⟨t,q⟩:=(show∃t,u=Vy y t from U);cases q;exact vw PySem.W.kitx_str I.kIn VF e (λz=>nomatch z) h
 |flt y=>obtain⟨t,q⟩:=(show∃t,u=HK y t from U);cases q;exact vw PySem.W.kitx_float I.kIn VF e (λz=>nomatch z) h
 | @lst a xs ea=>
  cases(show u=Vf a from U)
  obtain⟨_,_,n,_,h1⟩:=(show yc X.prog X.w H s.heap a (.lst xs) from I.hok a _ ea)
  exact vw PySem.W.kitx_list I.kIn [_:h1:1] e (λz=>nomatch z) h
 | @frz a ob xs ea=>
  cases(show u=Vf a from U)
  obtain⟨_,_,_,n,_,h1⟩:=(show yc X.prog X.w H s.heap a (.frz ob (.lst xs)) from I.hok a _ ea)
  exact vw PySem.W.kitx_list I.kIn [_:h1:1] e (λz=>nomatch z) h
 | @tup a xs ea=>
  cases(show u=Vf a from U)
  obtain⟨_,_,_,p⟩:=(show yc X.prog X.w H s.heap a (.tup xs) from I.hok a _ ea)
  erw[p,o,h1,h2,_];exact vw PySem.W.kitx_tuple I.kIn [o:h1:h2] e (λz=>nomatch z) h
 | @dK a kvs ea=>
  cases(show u=Vf a from U)
  obtain⟨_,_,vs,_,p⟩:=(show yc X.prog X.w H s.heap a (.dK kvs) from I.hok a _ ea)
  erw[p,o,es,ep,h1,h2,_];exact vw PySem.W.kitx_dict I.kIn [o:h1:h2.1] e (λz=>nomatch z) h
 | @dT a kvs ea=>
  cases(show u=Vf a from U)
  obtain⟨_,_,xs,_,o,es,ep,h1,h2,_⟩:=(show yc X.prog X.w H s.heap a (.dT kvs) from I.hok a _ ea)
  exact vw PySem.W.kitx_dict I.kIn [o:h1:h2.1] e (λz=>nomatch z) h
 | @ins a C dx fs ea cl ha hn htk hm=>
  cases(show u=Vf a from U)
  erw[KG I.hok ea,mA,O,_];erw[O.look,od,J,_];exact vw (PySem.W.kitx_own (cl.get _) cl.hd ha hn htk hm) I.kIn J e (λz=>nomatch z) h
end
structure Room (k:Nat)(A:oh):Prop where
 hd:A.handled=U_
 dp:A.depth+3*k+5<recursionLimit
 un:A.units+16*k+200<Vj
variable {j:Nat}
theorem Room.mono {k:Nat}(r:Room k A)(h:j<=k):Room j A:=⟨r.hd,by have:=r.dp;omega,by have:=r.un;omega⟩
theorem Room.deeper {k:Nat}(r:Room (k+1) A)(env:Env):Room k (A.deeper env):=
 ⟨r.hd,by have:=r.dp;show A.depth+1+3*k+5<_;omega,by have:=r.un;show A.units+3+16*k+200<_;omega⟩
theorem make_depth {O:oj (Str×o6)}:(A.under (.builtin "type.__call__" [.ref C::us:O])).depth=A.depth+1:=by
 first|rfl|simp [tG,Code.weight,Code.isCreation,Code.isGuard,Code.isCaller,TV,HX,guardIds]
theorem make_units {O:oj (Str×o6)}:(A.under (.builtin "type.__call__" [.ref C::us:O])).units=A.units+1:=by
 first|rfl|simp [tG,Code.cUnits,TV,HX]
theorem Room.make {k:Nat}(r:Room (k+1) A)(C:o3)(us:oj o6)(O:oj (Str×o6)):Room k (A.under (.builtin "type.__call__" [.ref C::us:O])):=
 ⟨r.hd,by have:=r.dp;rw [make_depth];omega,by have:=r.un;rw [make_units];omega⟩
theorem Room.depth {k:Nat}(r:Room k A):A.depth<recursionLimit:=by have:=r.dp;omega
theorem Room.units {k:Nat}(r:Room k A):A.units+64<cLine:=by have:=r.un;omega
def tNil:TA:=λ_ H Q=>Q [] H
def tCons (ta:TE)(tr:TA):TA:=λσ H Q=>ta σ H λx H1=>tr σ H1 λxs H2=>Q (x::xs) H2
section
variable {X:Cx}{e:Expr}{es:oj Expr}{te:TE}{t:TA}{pos:Pos}
theorem qc:PA X [] tNil:=λ_ _ _ _ H Q I h=>UC ⟨[],H,I,.nil,h⟩
theorem qb (ha:PE X e te)(O:PA X es t)(U:Ve (e::es) X.env=(V9,eval e X.env)::Ve es X.env:=by rfl):PA X (e::es) (tCons te t):=by
 intro pos oq s σ H Q I h;rw [U];show Va _ _ (t_ ((V9,eval e X.env)::Vn pos (Ve es X.env))) _ _ s;refine U5 (thn (ha oq s σ H _ I h) λu s1 zq=> ?_);erw[zq,x,H1,Z,r1,q1];exact thn (O pos oq s1 σ H1 _ Z q1) λus s2 ⟨xs,H2,I2,r2,q2⟩=>⟨x::xs,H2,I2,.cons r1 r2,q2⟩
def tTup (t:TA):TE:=λσ H Q=>t σ H λxs H1=>xs.length<=Vb/\∀p,H1 p=U_->Q (.ref p) (upd H1 p (.tup xs))
def tLst (t:TA):TE:=λσ H Q=>t σ H λxs H1=>xs.length<=Vb/\∀p,H1 p=U_->Q (.ref p) (upd H1 p (.lst xs))
theorem qE {x1}(h:PA X es t):PE X (.Tuple es x1 pos) (tTup t):=by
 intro oq s σ H Q I U;refine wpAny_Tuple_spliced (thn (h pos oq s σ H _ I U) λus s1 ⟨xs,H1,O,r,z,q⟩=>⟨by rwa [<-r.length],?_⟩)
 have Z:H1 s1.heap.objs.size=none:=O.hok.fresh (uj _);refine⟨.ref s1.heap.objs.size,upd H1 s1.heap.objs.size (.tup xs),O.laid (t':=s1.toks) (λb u e=>ue _ e) (uj _) ?_,1,q _ Z⟩;exact⟨z,us,r,⟨_,uH _ rfl,1,0⟩⟩
theorem Qw (h:PA X es t):PE X (.List es pos) (tLst t):=by
 intro oq s σ H Q I U;refine wpAny_List_spliced (thn (h pos oq s σ H _ I U) λus s1 ⟨xs,H1,O,r,z,q⟩=>⟨by rwa [<-r.length],?_⟩)
 have Z:H1 s1.heap.objs.size=none:=O.hok.fresh (uj _);refine⟨.ref s1.heap.objs.size,upd H1 s1.heap.objs.size (.lst xs),O.laid (t':=s1.toks) (λb u e=>ue _ e) (uj _) ?_,1,q _ Z⟩;exact⟨z,us,(0),r,uH _ rfl⟩
end
abbrev Sp:=oj V->Hp->VK->XK->Prop
abbrev CXT:=oj Env->Hp->o7->XK->o6->o7->Prop
structure Env0 (P:o9)(w:og)(K:o0)(mg:Str->om o6)(base:o8)(A:oh)(outer:oj Env)(s:o7)(H:Hp):Prop where
 frames:A.frames=u_ outer
 mod:Mod K mg base
 bs:∀b o,base.get? b=u_ o->s.heap.get? b=u_ o/\H b=U_
 bsz:base.objs.size<=s.heap.objs.size
 funs:s.heap.FunFrames base outer
 frf:∀b∈frs outer,H b=U_
 hok:HOk P w H s.heap
 bare:VO s.gens
def CE (outer:oj Env)(P:o9)(w:og)(H:Hp)(s:o7)(Q:VK)(u:o6)(s':o7):Prop:=
 ∃v H',s'.os=s.os/\VO s'.gens/\0<s'.toks/\Un (frs outer) [] H H' s.heap s'.heap/\HOk P w H' s'.heap/\RelV v u/\Q v H'
def CR (CX:CXT)(outer:oj Env)(P:o9)(w:og)(H:Hp)(s:o7)(Q:VK)(E:XK)(r:Ge)(s':o7):Prop:=
 match r with
 | .ok (.ret u)=>CE outer P w H s Q u s'
 | .ok _=>False
 | .error e=>CX outer H s E e s'
structure FnOk (P:o9)(w:og)(K:o0)(mg:Str->om o6)(base:o8)(CX:CXT)(k:Nat)(f:o3)(fd:Vd)(ps:oj Str)(sp:Sp):Prop where
 len:∀vs H Q E,sp vs H Q E->vs.length=ps.length
 run:∀(A:oh) (outer:oj Env) (s:o7) (H:Hp) (args:Args) (us:oj o6) (vs:oj V) (Q:VK) (E:XK),Room k A->Env0 P w K mg base A outer s H->Gn s fd args (ps.zip us)->Vals vs us->sp vs H Q E->(0<s.toks∨∃x r,ps=x::r/\fd.scope.names.lookup x=u_ .local)->
  VJ (Vq P w) A (.call (.ref f) args) (CR CX outer P w H s Q E) s
variable {mg:Str->om o6}
theorem Env0.make {P:o9}{base:o8}{outer:oj Env}(e:Env0 P w K mg base A outer s H)(C:o3)(us:oj o6)(O:oj (Str×o6)):
  Env0 P w K mg base (A.under (.builtin "type.__call__" [.ref C::us:O])) outer s H:=⟨by first|exact e.frames|(simpa [tG,Code.envs,HX,pushEnvs] using e.frames),e.mod,e.bs,e.bsz,e.funs,e.frf,e.hok,e.bare⟩
section
variable {X:Cx}{oq:oj (o3×Obj)}{σ:St}{H:Hp}{s s':o7}
theorem Inv.env0 (I:Inv X oq σ H s):Env0 X.prog X.w X.K X.mg X.base X.A X.stack s H:=
 ⟨I.ok.frames,I.ok.mod,I.bs,uM I.ok.bsz I.sz,I.stack,I.stkFree,I.hok,I.bare⟩
variable {Q:VK}
theorem Inv.after {u:o6}(I:Inv X oq σ H s)(h:CE X.stack X.prog X.w H s Q u s'):EP X oq σ Q u s':=by
 erw[h,v,H',os,bare,htk,un,hok,r,q];erw[s',U,g,d,t,O];obtain rfl:O=s.os:=os;exact⟨v,H',I.call (h':=U) (g':=g) (d':=d) (t':=t) (ch:= []) un hok bare (λb z=>absurd z (by simp)),r,q⟩
end
def tCall (sp:Sp)(dvs:oj V)(E:XK)(t:TA):TE:=λσ H Q=>t σ H λvs H1=>sp (vs++dvs) H1 Q E
inductive ItMeth (C:Addr) (m:Str) (sp:Sp) (dvs:List V) (E:XK) (t:TA) (σ:St) (Q:VK) (x:V) (H1:Hp):Prop
 |mk (a:_) (dx:_) (fs:_) (_:x= .ref a) (_:H1 a=u_ (.ins C dx fs)) (_:fs.lookup m=U_) (_:t σ H1 λvs H2=>sp (x::(vs++dvs)) H2 Q E)
def tMeth (C:o3)(m:Str)(sp:Sp)(dvs:oj V)(E:XK)(ta:TE)(t:TA):TE:=λσ H Q=>ta σ H λx H1=>ItMeth C m sp dvs E t σ Q x H1
def tMake (C:o3)(sp:Sp)(dvs:oj V)(E:XK)(t:TA):TE:=λσ H Q=>t σ H λvs H1=>∀x dx,H1 x=U_->H1 dx=U_->dx≠x->
 sp (.ref x::(vs++dvs)) (upd (upd H1 dx (.own x)) x (.ins C dx [])) (λv H2=>v= .non/\Q (.ref x) H2) E
def zD (K:o0)(fd:Vd)(ps:oj Str)(ds:oj o6):Prop:=
 ∀(s:o7) (us:oj o6),K.In s.heap->(us++ds).length=ps.length->Gn s fd [us:[]] (ps.zip (us++ds))
theorem zD.all {fd:Vd}{ps:oj Str}(h:∀us:oj o6,us.length=ps.length->gZ fd [us:[]]=pure (ps.zip us)):zD K fd ps []:=λs us _ O=>by
 rw [uW] at O⊢;exact .of_eq (h us O)
def XH (CX:CXT)(X:Cx)(E:XK):Prop:=∀(oq:oj (o3×Obj)) (σ:St) (H:Hp) (s:o7) (e:o6) (s':o7),Inv X oq σ H s->CX X.stack H s E e s'->X.xe e s'
section
variable {X:Cx}{CX:CXT}{k:Nat}{f C:o3}{fd:Vd}{ps:oj Str}{sp:Sp}{dvs:oj V}{ds:oj o6}{E:XK}{x m:Str}{p pos apos:Pos}{e o:Expr}{es:oj Expr}{ta:TE}{t:TA}
theorem run_fn {oq:oj (o3×Obj)}{σ:St}{H:Hp}{s:o7}{Q:VK}{us:oj o6}{vs:oj V}(F:FnOk X.prog X.w X.K X.mg X.base CX k f fd ps sp)(Z:Room k X.A)(hb:zD X.K fd ps ds)(hd:Vals dvs ds)(hx:XH CX X E)
  (I:Inv X oq σ H s) (r:Vals vs us) (h:sp (vs++dvs) H Q E):Va #[X,X] X.A (call (.ref f) us) (EP X oq σ Q) X.xe s:=by
 have U:Vals (vs++dvs) (us++ds):=r.append hd;have hl:(us++ds).length=ps.length:=by rw [<-U.length];exact F.len _ _ _ _ h
 refine tH (HJ (F.run X.A X.stack s H [us:[]] (us++ds) (vs++dvs) Q E Z I.env0 (hb s us I.kIn hl) U h (.inl I.tk)) λr s' O=> ?_);cases r with
 |error e=>exact hx oq σ H s e s' I O
 |ok fl=>
  cases fl with
  |ret u=>exact I.after O
  |next=>exact VA O
  |brk=>exact VA O
  |cont=>exact VA O
theorem qt (F:FnOk X.prog X.w X.K X.mg X.base CX k f fd ps sp)(hr:Room k X.A)(hg:Gl X x)(hm:X.mg x=u_ (.ref f))(hk:PySem.W.keepIn X.K (.ref f)=v_)(hb:zD X.K fd ps ds)(hd:Vals dvs ds)(hx:XH CX X E)
  (ha:PA X (e::es) t) (O:(x==("__debug__":Str))=V9) (he:Ve (e::es) X.env=(V9,eval e X.env)::Ve es X.env) (U:(Vn pos (Ve es X.env)).any (·.1)=V9):
  PE X (.Call (.Name x p) (e::es) [] pos) (tCall sp dvs E t):=by
 intro oq s σ H Q I h;refine Um (KK I hg hm ?_ O);refine UQ (h₀:=X.base) I.ok.mod.kin hk (thn (ha pos oq s σ H _ I h) λus s1 ⟨vs,H1,Z,r,q⟩=>[Z.kIn:?_]) he U;exact run_fn F hr hb hd hx Z r q
theorem Qi {pl:Sem Bool}(he:PE X o ta)(c:Cls X.K C)(hm:Meth X.K C m f)(F:FnOk X.prog X.w X.K X.mg X.base CX k f fd ps sp)(hr:Room k X.A)(hb:zD X.K fd ps ds)(hd:Vals dvs ds)(hx:XH CX X E)(ha:PA X (e::es) t)
  (O:Ve (e::es) X.env=(V9,eval e X.env)::Ve es X.env) (U:(Vn pos (Ve es X.env)).any (·.1)=V9)
  (ht:eval (.Call (.Attribute o m apos) (e::es) [] pos) X.env=(do
   let ov<-eval o X.env
   GT apos.atName
   let(f,first)<-G7 [ov] (G_ ov m pl)
   tQ pos f first (Vn pos (Ve (e::es) X.env)) (Gm pos (Gg [] X.env)))):
  PE X (.Call (.Attribute o m apos) (e::es) [] pos) (tMeth C m sp dvs E ta t):=by
 intro oq s σ H Q I h;refine PySem.W.methodCall_KW (pl:=pl) (thn (he oq s σ H _ I h) λu s1 zq=> ?_) ht;erw[zq,x,H1,Z,rx,a,dx,fs,ex,ea,l,q];subst ex;obtain rfl:u=Vf a:=rx;refine W9 Z ea c hm l ?_;refine UQ (first:= [.ref a]) (h₀:=X.base) I.ok.mod.kin hm.kp (thn (ha pos oq s1 σ H1 _ Z q) λus s2 ⟨vs,H2,I2,r,q2⟩=>[I2.kIn:?_]) O U;exact run_fn (us:= .ref a::us) (vs:= .ref a::vs) F hr hb hd hx I2 (.cons rfl r) q2
theorem yg {pl:Sem Bool}(U:PE X o ta)(c:Cls X.K C)(hm:Meth X.K C m f)(F:FnOk X.prog X.w X.K X.mg X.base CX k f fd ps sp)(Z:Room k X.A)(hb:zD X.K fd ps ds)(hd:Vals dvs ds)(hx:XH CX X E)
  (ht:eval (.Call (.Attribute o m apos) [] [] pos) X.env=(do
   let ov<-eval o X.env
   GT apos.atName
   let(f,first)<-G7 [ov] (G_ ov m pl)
   tQ pos f first (Vn pos (Ve [] X.env)) (Gm pos (Gg [] X.env)))):
  PE X (.Call (.Attribute o m apos) [] [] pos) (tMeth C m sp dvs E ta tNil):=by
 intro oq s σ H Q I h;refine PySem.W.methodCall_KW (pl:=pl) (thn (U oq s σ H _ I h) λu s1 zq=> ?_) ht;erw[zq,x,H1,O,rx,a,dx,fs,ex,ea,l,q];subst ex;obtain rfl:u=Vf a:=rx;refine W9 O ea c hm l ?_;exact PySem.W.callWith_K0 (first:= [.ref a]) O.kIn hm.kp (run_fn (us:= [.ref a]) (vs:= [.ref a]) F Z hb hd hx O (.cons rfl .nil) q)
structure Mk (K:o0)(C f:o3):Prop where
 makes:PySem.W.makesIn K C=v_
 init:PySem.W.findIn K (.ref C) "__init__"=u_ (u_ (.ref f))
 fn:PySem.W.isFn K (.ref f)=v_
 kp:PySem.W.keepIn K (.ref C)=v_
theorem run_make {oq:oj (o3×Obj)}{σ:St}{H:Hp}{s:o7}{Q:VK}{us:oj o6}{vs:oj V}(M:Mk X.K C f)(F:FnOk X.prog X.w X.K X.mg X.base CX k f fd ps sp)(hr:Room (k+1) X.A)(hb:zD X.K fd ps ds)(hd:Vals dvs ds)
  (hx:XH CX X E) (I:Inv X oq σ H s) (r:Vals vs us)
  (h:∀x dx,H x=U_->H dx=U_->dx≠x->sp (.ref x::(vs++dvs)) (upd (upd H dx (.own x)) x (.ins C dx [])) (λv H2=>v= .non/\Q (.ref x) H2) E):
  Va #[X,X] X.A (call (.ref C) us) (EP X oq σ Q) X.xe s:=by
 have Z:=h (s.heap.objs.size+1) s.heap.objs.size (I.hok.fresh (GJ _)) (I.hok.fresh (uj _)) (uS (Tp _));have U:=Inv.made (C:=C) I;have r2:Vals (V.ref (s.heap.objs.size+1)::(vs++dvs)) (Vf (s.heap.objs.size+1)::(us++ds)):= .cons rfl (r.append hd);have hl:(Vf (s.heap.objs.size+1)::us++ds).length=ps.length:=by
  have e:=r2.length;rw [F.len _ _ _ _ Z] at e;exact e.symm
 refine tH (make_map (f:=f) I.kIn M.makes M.init (beq_iff_eq.mp M.fn) (HJ (F.run _ X.stack _ _ [Vf (s.heap.objs.size+1)::us:[]] (Vf (s.heap.objs.size+1)::(us++ds)) _ _ E (hr.make C us [])
  (U.env0.make C us []) (hb _ (Vf (s.heap.objs.size+1)::us) U.kIn hl) r2 Z (.inl U.tk)) λr s' O=> ?_))
 cases r with
 |error e=>exact hx oq σ _ _ e s' U O
 |ok fl=>
  cases fl with
  |ret u=>
   erw[U.after O,v,H',I3,rv,ev,q3];subst ev;exact[rv:⟨V.ref (s.heap.objs.size+1),H',I3,1,q3⟩]
  |next=>exact VA O
  |brk=>exact VA O
  |cont=>exact VA O
theorem zt (M:Mk X.K C f)(F:FnOk X.prog X.w X.K X.mg X.base CX k f fd ps sp)(hr:Room (k+1) X.A)(hg:Gl X x)(hm:X.mg x=u_ (.ref C))(hb:zD X.K fd ps ds)(hd:Vals dvs ds)(hx:XH CX X E)
  (ha:PA X (e::es) t) (O:(x==("__debug__":Str))=V9) (he:Ve (e::es) X.env=(V9,eval e X.env)::Ve es X.env) (U:(Vn pos (Ve es X.env)).any (·.1)=V9):
  PE X (.Call (.Name x p) (e::es) [] pos) (tMake C sp dvs E t):=by
 intro oq s σ H Q I h;refine Um (KK I hg hm ?_ O);refine UQ (h₀:=X.base) I.ok.mod.kin M.kp (thn (ha pos oq s σ H _ I h) λus s1 ⟨vs,H1,Z,r,q⟩=>[Z.kIn:?_]) he U;exact run_make M F hr hb hd hx Z r q
end
structure qu (N P:oj Str)(sc:Vt):Prop where
 kind:sc.kind= .function
 co:sc.isCoroutine=V9
 gen:sc.isGenerator=V9
 nd:N.Nodup
 pre:N.take P.length=P
 par:∀x∈P,sc.names.lookup x=u_ .local∨sc.names.lookup x=u_ .cell
 nofree:∀y∈sc.names,y.2≠ .free
theorem bindL_out {kindOf:Str->om VG}{x:Str}:∀{binds:oj (Str×o6)}{m:Str->om o6},(∀v,(x,v)∉binds)->VM kindOf binds m x=m x
 | [],_,_=>rfl
 |(n,v)::r,m,h=>by
  unfold VM;rw [bindL_out λw O=>h w (ud _ O)];split
  ·have:x≠n:=by rintro rfl;exact h v ug
   simp [this]
  ·rfl
theorem bindC_out {kindOf:Str->om VG}{x:Str}:∀{binds:oj (Str×o6)}{m:Str->om o6},(∀v,(x,v)∉binds)->VI kindOf binds m x=m x
 | [],_,_=>rfl
 |(n,v)::r,m,h=>by
  unfold VI;rw [bindC_out λw O=>h w (ud _ O)];split
  ·rfl
  ·have:x≠n:=by rintro rfl;exact h v ug
   simp [this]
theorem bindL_get {kindOf:Str->om VG}{x:Str}{v:o6}:∀{P:oj Str}{vs:oj o6}{i:Nat}{m:Str->om o6},P.Nodup->P[i]? =u_ x->vs[i]? =u_ v->kindOf x=u_ .local->
  VM kindOf (P.zip vs) m x=u_ v
 | [],_,_,_,_,h,_,_=>by simp at h
 |_::_,[],_,_,_,_,h,_=>by simp at h
 |p::P,w::vs,0,m,nd,h1,h2,hk=>by
  simp at h1 h2;subst h1;subst h2;show VM kindOf ((p,w)::P.zip vs) m p=_;unfold VM;rw [bindL_out λv O=>(List.nodup_cons.mp nd).1 (T8 O).1,Aa hk];simp
 |p::P,w::vs,i+1,m,nd,h1,h2,hk=>by
  show VM kindOf ((p,w)::P.zip vs) m x=_;unfold VM;exact bindL_get (i:=i) (List.nodup_cons.mp nd).2 (by simpa using h1) (by simpa using h2) hk
theorem bindC_get {kindOf:Str->om VG}{x:Str}{v:o6}:∀{P:oj Str}{vs:oj o6}{i:Nat}{m:Str->om o6},P.Nodup->P[i]? =u_ x->vs[i]? =u_ v->kindOf x≠u_ .local->
  VI kindOf (P.zip vs) m x=u_ v
 | [],_,_,_,_,h,_,_=>by simp at h
 |_::_,[],_,_,_,_,h,_=>by simp at h
 |p::P,w::vs,0,m,nd,h1,h2,hk=>by
  simp at h1 h2;subst h1;subst h2;show VI kindOf ((p,w)::P.zip vs) m p=_;unfold VI;rw [bindC_out λv O=>(List.nodup_cons.mp nd).1 (T8 O).1,A2 hk];simp
 |p::P,w::vs,i+1,m,nd,h1,h2,hk=>by
  show VI kindOf ((p,w)::P.zip vs) m x=_;unfold VI;exact bindC_get (i:=i) (List.nodup_cons.mp nd).2 (by simpa using h1) (by simpa using h2) hk
def KP (N:oj Str)(vs:oj V):St:=vs.map u_++Vl (N.length-vs.length) U_
def cxOf (CX:CXT)(P:o9)(w:og)(K:o0)(mg:Str->om o6)(base:o8)(N:oj Str)(qual:Str)(scope:Vt)(f:o3)(cd:o6)(A:oh)(outer:oj Env)(s:o7)(H:Hp)(E:XK):Cx where
 prog:=P
 w:=w
 K:=K
 mg:=mg
 base:=base
 A:=A.deeper (Vg qual scope s.heap.objs.size f cd)
 N:=N
 s₀:=s
 H₀:=H
 env:=Vg qual scope s.heap.objs.size f cd
 outer:=outer
 stack:=Vg qual scope s.heap.objs.size f cd::outer
 ex:= []
 calm:=v_
 fn:=λ_=>v_
 pn:= []
 xe:=λe s'=>Va (Vq P w) (A.deeper (Vg qual scope s.heap.objs.size f cd)) (Tf (Vg qual scope s.heap.objs.size f cd) e) (λ_ s''=>CX outer H s E e s'') (λe' s''=>CX outer H s E e' s'') s'
variable {n:Nat}{x:Str}
theorem cell_has {sc:Vt}(h:sc.names.lookup x=u_ .cell):∃c,(Gz n sc.names []).lookup x=u_ c:=by
 have q:=PySem.W.cellsFrom_some sc.names n [] (.inl h);exact Option.isSome_iff_exists.mp q
theorem inv_start {CX:CXT}{P:o9}{w:og}{K:o0}{mg:Str->om o6}{base:o8}{N ps:oj Str}{qual:Str}{scope:Vt}{f:o3}{cd:o6}{A:oh}{outer:oj Env}{s s1:o7}{H:Hp}{E:XK}{us:oj o6}{vs:oj V}
  (S:qu N ps scope) (hd:A.handled=U_) (O:Env0 P w K mg base A outer s H) (hl:vs.length=ps.length) (r:Vals vs us)
  (x:GU s s.heap.objs.size (VM (Vg qual scope s.heap.objs.size f cd).kindOf (ps.zip us) λ_=>U_) (Gz (s.heap.objs.size+1) scope.names []) (VI (Vg qual scope s.heap.objs.size f cd).kindOf (ps.zip us) λ_=>U_) s1) (ac:0<s1.toks):
  Inv (cxOf CX P w K mg base N qual scope f cd A outer s H E) [] (KP N vs) H s1:=by
 have ad:ps.length<=N.length:=by have:=congrArg VT S.pre;rw [U2] at this;omega
 erw[x.done,h1,tk,rfl,hk];have U:∀b:o3,b∉(cxOf CX P w K mg base N qual scope f cd A outer s H E).ex:=λb z=>absurd (show b∈([]:oj o3) from z) (by simp)
 refine⟨⟨O.mod,S.kind,1,1,uj _,λy z c h1 h2=> ?_,λy Z=> ?_,λy c _ h=> ?_,λ_=>hd,Around.frames_deeper O.frames,.inr [1:1],λb z=>absurd z (U b),O.bs,O.bsz,λb _ _=>U b,λb z=>absurd z (U b),O.funs,O.frf⟩,1,O.bare,Un.kept hk,[_:x.toInCall.ns:λi y v h1 h2 h3=> ?_],λy c h=>[_:x.cell y c h],O.hok.fresh (uj _),λy c h=> ?_,λp hp=>absurd (show p∈([]:oj (o3×Obj)) from hp) (by simp),O.hok.kept hk,?_,ac⟩
 ·exact name_of_addr x.apart (vM h1) (vM h2)
 ·have Z:scope.names.lookup y=u_ .cell∨scope.names.lookup y=u_ .free:=Z;rcases Z with Z|Z
  ·exact cell_has Z
  ·exact absurd rfl (S.nofree _ (vM Z))
 ·exact Uv (x.above y c (vM h))
 ·have hi:i<vs.length:=by
   unfold KP at h2;by_cases hi:i<vs.length
   ·exact hi
   ·rw [U0 (by simpa using hi)] at h2
    rw [rM] at h2;split at h2<;>cases h2
  have ha:vs[i]? =u_ v:=by
   unfold KP at h2;rw [vP (by simpa using hi),uI] at h2
   cases e:vs[i]? with
   |none=>rw [e] at h2;cases h2
   |some a=>rw [e] at h2;cases h2;rfl
  erw[r.get ha,u,hu,rv];have hp:ps[i]? =u_ y:=by
   rwa [<-S.pre,List.getElem?_take_of_lt ()]
  have aa:ps.Nodup:=by rw [<-S.pre];exact S.nd.sublist (Fi _ _)
  exists u,rv;rcases S.par y (uX hp) with k|k
  ·exact .inl [k:bindL_get aa hp hu k]
  ·erw[cell_has (n:=s.heap.objs.size+1) k,c,e];refine .inr ⟨.inl k,c,e,?_⟩;have q:=x.cell y c e;rw [bindC_get aa hp hu (by show scope.names.lookup y≠_;rw [k];decide)] at q
   exact q
 ·exact O.hok.fresh (Uv (x.above y c (vM h)))
 ·unfold KP;show _=N.length;rw [uB,uc,rn];omega
theorem bindParams1 {M:GD}{A:oh}{E:o6->o7->Prop}{s₀ s:o7}{m Z:Str->om o6}{env:Env}(f:Str×o6->PUnit->Sem (ForInStep PUnit))(hf:∀n v u,f (n,v) u=(do GZ env n v;pure (.yield ⟨⟩)))(O:env.scope.kind= .function)
  (n:Str) (v:o6) (r:oj (Str×o6)) (Q:PUnit->o7->Prop) (x:GU s₀ env.locals m env.cells Z s) (hl:env.kindOf n=u_ .local)
  (aa:∀x∈r,env.kindOf x.1=u_ .local∨(env.kindOf x.1=u_ .cell/\(env.cells.lookup x.1).isSome=v_))
  (h:∀s',GU s₀ env.locals (VM env.kindOf ((n,v)::r) m) env.cells (VI env.kindOf ((n,v)::r) Z) s'->0<s'.toks->Q ⟨⟩ s'):Va M A (VN ((n,v)::r) ⟨⟩ f) Q E s:=by
 rw [Ux,hf];refine Ab (Ab (Rz hl x.toInCall.ns (λh' ac U=>uE ?_) (by rw [O];rfl)))
 have x1:GU s₀ env.locals (λy=>if y=n then u_ v else m y) env.cells Z {s with heap:=h',toks:=s.toks+1}:=by
  refine⟨⟨?_,ac,λb o e=> ?_,x.toInCall.fresh⟩,λk c hc=> ?_,x.apart,x.above⟩
  ·erw[x.toInCall.same,h₁,tk,rfl];exact[h':0]
  ·have:=x.toInCall.keep b o e;exact U.extBut b o (uS (Vo (uG e) x.toInCall.fresh)) (x.toInCall.keep b o e)
  ·exact(x.cell k c hc).sameBut U (Uw (x.above k c (mem_of_lookup hc)))
 refine vh (n:=1) (Ry (vf _)) (wpAny_bindParams f hf O r _ _ _ _ x1 aa λs' y h1=>h s' ?_ h1);unfold VM VI;rw [Aa hl,Aa hl];exact y
theorem newEnv_tk {M:GD}{A:oh}{E:o6->o7->Prop}{s:o7}{scope:Vt}{globals:o3}{binds:oj (Str×o6)}{qual:Str}{func:om o3}{O:o6}{builtins:o3}{Q:Env->o7->Prop}
  (Z:scope.kind= .function)
  (aa:∀x∈binds,scope.names.lookup x.1=u_ .local∨(scope.names.lookup x.1=u_ .cell/\((Gz (s.heap.objs.size+1) scope.names []).lookup x.1).isSome=v_))
  (htk:0<s.toks∨∃n v r,binds=(n,v)::r/\scope.names.lookup n=u_ .local)
  (hq:∀en,en=newEnv scope s.heap.objs.size globals (Gz (s.heap.objs.size+1) scope.names []) qual func O U_ builtins->
   ∀s',GU s en.locals (VM en.kindOf binds λ_=>U_) en.cells (VI en.kindOf binds λ_=>U_) s'->0<s'.toks->Q en s'):
  Va M A (Tz scope globals [] binds qual func O U_ builtins) Q E s:=by
 rcases htk with htk|⟨n,v,r,rfl,hl⟩
 ·exact vh (n:=1) htk (wpAny_newFunctionEnv_cells Z aa λenv he s' x h1=>hq env he s' x h1)
 ·simp![Tz,Uo,UR,if_false];refine Ab (wpAny_alloc ?_);refine Ab (wpAny_layCells _ (λname kind cells=>by cases ac:kind==gQ<;>simp [ac]) _ _ _ _ ?_)
  have U:=cellsFrom_ok scope.names (s.heap.push {cls:= .type "frame",data:= .dict #[]}) (s.heap.objs.size+1) [] [λ_ _ hm=>(nomatch hm):tI] (by rw [vt];exact uj _);rw [vt] at U;rw [show({s with heap:=s.heap.push {cls:= .type "frame",data:= .dict #[]}}:o7).heap.objs.size=s.heap.objs.size+1 from vt ..]
  exact Ab (bindParams1 (s₀:=s) (env:=newEnv scope s.heap.objs.size globals (Gz (s.heap.objs.size+1) scope.names []) qual func O U_ builtins)
   _ (λ_ _ _=>rfl) Z n v r _
   ⟨⟨⟨_,_,by rfl⟩,(Heap.Ns.new s.heap (.type "frame")).keeps (rC _ _),λb o e=>rC _ _ b o (ue _ e),uj _⟩,
    λm c hc=>(U.empty m c (mem_of_lookup hc)).1,U.apart,λn c hm=>(U.empty n c hm).2⟩
   hl (λy hy=>aa y (ud _ hy)) λs' x h1=>uE (hq _ rfl s' x h1))
theorem fn_of {CX:CXT}{P:o9}{w:og}{K:o0}{mg:Str->om o6}{base:o8}{k:Nat}{f:o3}{name qual:Str}{O:Arguments}{U:oj Stmt}{scope:Vt}{dV kV doc pm cdv ct oc:o6}{an od:om o3}
  {osl:Array (om o6)}{N ps:oj Str}{sp:Sp} (lk:K.lookup f=u_ ⟨oc,od,.func (PySem.W.fnOf name qual O U scope dV kV doc pm an cdv ct),osl⟩) (ae:PySem.W.codeIn K cdv qual=v_) (S:qu N ps scope)
  (len:∀vs H Q E,sp vs H Q E->vs.length=ps.length)
  (Z:∀(A:oh) (outer:oj Env) (s:o7) (H:Hp) (vs:oj V) (Q:VK) (E:XK),Room k (A.deeper (Vg qual scope s.heap.objs.size f cdv))->sp vs H Q E->
   ∃t,PSs (cxOf CX P w K mg base N qual scope f cdv A outer s H E) U t/\t {nx:=λ_ H'=>Q .non H',rt:=Q} (KP N vs) H):
  FnOk P w K mg base CX (k+1) f (PySem.W.fnOf name qual O U scope dV kV doc pm an cdv ct) ps sp:=by
 refine[len:λA outer s H args us vs Q E hr e0 hb r ac htk=> ?_];have hl:=len _ _ _ _ ac;have KX:K.In s.heap:=e0.mod.kin.keeps λb o e=>(e0.bs b o e).1;have af:s.heap.NoLimit:=e0.mod.nolimit.keeps λb o e=>(e0.bs b o e).1;have aa:∀y∈ps.zip us,scope.names.lookup y.1=u_ .local∨(scope.names.lookup y.1=u_ .cell/\((Gz (s.heap.objs.size+1) scope.names []).lookup y.1).isSome=v_):=λ⟨n,v⟩ hy=>by
  rcases S.par n (T8 hy).1 with q|q
  ·exact .inl q
  ·exact .inr [q:PySem.W.cellsFrom_some _ _ _ (.inl q)]
 have ad:0<s.toks∨∃n v r,ps.zip us=(n,v)::r/\scope.names.lookup n=u_ .local:=by
  rcases htk with h|⟨y,q,e,hy⟩
  ·exact .inl h
  ·have:us.length=ps.length:=by rwa [<-r.length]
   subst e
   match us,this with
   |u::us',_=>exact .inr ⟨y,u,q.zip us',1,hy⟩
 refine codeAny_call_function hr.depth (KX _ _ lk) rfl S.co S.gen rfl (PySem.W.codeRec_of KX ae) (hb _ _ _ _ ?_);refine newEnv_tk S.kind aa ad λenv he s1 x ag=> ?_;subst he;refine[af.keeps x.toInCall.keep:codeAny_func ?_];erw[Z A outer s H vs Q E (hr.deeper _) ac,t,ht,hq];have I:Inv (cxOf CX P w K mg base N qual scope f cdv A outer s H E) [] (KP N vs) H s1:=inv_start S hr.hd e0 hl r x ag;refine vS (ht [] s1 (KP N vs) H _ I hq) (λfl s' hs=> ?_) λe s' hs=>hs;have fin:∀{σ':St}{H':Hp}{v:V}{u:o6},Inv (cxOf CX P w K mg base N qual scope f cdv A outer s H E) [] σ' H' s'->RelV v u->Q v H'->CE outer P w H s Q u s':=
  λ{σ' H' v u} J rv q=>⟨v,H',J.os,J.bare,J.tk,J.base,J.hok,rv,q⟩
 cases fl with
 |ret u=>
  erw[hs,v,σ',H',J,rv,q];exact fin J rv q
 |next=>
  erw[hs,σ',H',J,q];exact fin (v:=V.non) (u:=VW) J rfl q
 |brk=>
  erw[hs,_,_,_,q];exact VA q
 |cont=>
  erw[hs,_,_,_,q];exact VA q
section
variable {X:Cx}{x:Str}{p pos:Pos}{e:Expr}{es:oj Expr}{t:TA}{id T:String}{r:oj V->Hp->VK->Prop}
def tCB (r:oj V->Hp->VK->Prop)(t:TA):TE:=λσ H Q=>t σ H λvs H1=>r vs H1 Q
theorem qz (Z:Y6 X (.builtin id) r)(hg:Gl X x)(hm:X.mg x=U_)(hv:Gi x=u_ (.builtin id))(ha:PA X (e::es) t)(hn:x≠"__name__")(O:(x==("__debug__":Str))=V9)
  (he:Ve (e::es) X.env=(V9,eval e X.env)::Ve es X.env) (U:(Vn pos (Ve es X.env)).any (·.1)=V9):PE X (.Call (.Name x p) (e::es) [] pos) (tCB r t):=by
 intro oq s σ H Q I h;refine Um (wy I hg hm hv ?_ hn O);exact pN (thn (ha pos oq s σ H _ I h) λus s1 ⟨vs,H1,I1,r1,q1⟩=>Z oq s1 σ H1 vs us Q I1 r1 q1) he U
theorem qK (Z:Y6 X (.type T) r)(hg:Gl X x)(hm:X.mg x=U_)(hv:Gi x=u_ (.type T))(ha:PA X (e::es) t)(hn:x≠"__name__")(O:(x==("__debug__":Str))=V9)
  (he:Ve (e::es) X.env=(V9,eval e X.env)::Ve es X.env) (U:(Vn pos (Ve es X.env)).any (·.1)=V9):PE X (.Call (.Name x p) (e::es) [] pos) (tCB r t):=by
 intro oq s σ H Q I h;refine Um (wy I hg hm hv ?_ hn O);exact vE (thn (ha pos oq s σ H _ I h) λus s1 ⟨vs,H1,I1,r1,q1⟩=>Z oq s1 σ H1 vs us Q I1 r1 q1) he U
end
end L2
namespace HT
open PySem PyProof.Rows
section
variable {prog:o9}{w:og}{A:oh}{E:o6->o7->Prop}{s:o7}
theorem cat_tup {t b:o3}{vs ws:oj o6}{Q:o6->o7->Prop}(ht:Gr s.heap t vs.toArray)(hb:Gr s.heap b ws.toArray)(hv:vs≠ [])
  (h1:ws= []->Q (.ref t) s) (h2:ws≠ []->Q (.ref s.heap.objs.size) {s with heap:=s.heap.push {cls:= .type "tuple",data:= .seq (vs++ws).toArray}})
  (hsz:vs.length+ws.length<=Vb):Va #[w,w] A (VC .Add (.ref t) (.ref b)) Q E s:=by
 erw[id ht,[cls,dd,data,sl],ho,hc,n,hd];erw[id hb,[ae,U,ad,Z],O,aa,n2,ac];simp only at hc hd aa ac;subst hc hd aa ac;have e:vs.toArray++ws.toArray=(vs++ws).toArray:=by simp
 by_cases hw:ws= []
 ·exact tN [_:ho:1] [_:O:1] tV T4 PySem.F.slot_tuple_add US (UL _ _)
   (tuple_addW1 t b vs.toArray ws.toArray n n2 dd U sl Z (by simpa using hv) (by simp [hw])) [ho:O:h1 hw]
 ·refine tN [_:ho:1] [_:O:1] tV T4 PySem.F.slot_tuple_add US (UL _ _)
   (tuple_addW2 t b vs.toArray ws.toArray n n2 dd U sl Z (by simpa using hv) (by simpa using hw) (by rwa [uz,uz])) [ho:O:?_]
  rw [e];exact h2 hw
def sIx (n d:Nat):om Int->Nat
 |none=>d
 |some v=>if v<0 then(v+(n:Int)).toNat else min v.toNat n
theorem sIx_none (n d:Nat):sIx n d U_=d:=rfl
theorem sIx_nat (n d k:Nat):sIx n d (u_ (k:Int))=min k n:=by
 show(if(k:Int)<0 then((k:Int)+(n:Int)).toNat else min (k:Int).toNat n)=min k n
 rw [A2 (),tR]
theorem sIx_le (n d:Nat)(hd:d<=n)(o:om Int):sIx n d o<=n:=by
 cases o with
 |none=>exact hd
 |some v=>
  show(if v<0 then(v+(n:Int)).toNat else min v.toNat n)<=n
  by_cases O:v<0
  ·rw [Aa O];omega
  ·rw [A2 O];exact Nat.min_le_right _ _
theorem clip_eq (v:Int)(n d:Nat):(if v<0 then max (v+(n:Int)) 0 else min v (n:Int))=((sIx n d (u_ v):Nat):Int):=by
 show(if v<0 then max (v+(n:Int)) 0 else min v (n:Int))=(((if v<0 then(v+(n:Int)).toNat else min v.toNat n):Nat):Int)
 by_cases O:v<0
 ·simp![Aa O];omega
 ·simp![A2 O];omega
theorem adjust_gen (lo hi:om Int)(n:Nat):tt lo hi 1 (n:Int)=(((sIx n 0 lo:Nat):Int),((sIx n n hi:Nat):Int)):=by
 have h1:¬((1:Int)<0):=by omega
 unfold tt;simp![h1,if_false];refine Prod.ext ?_ ?_
 ·cases lo with
  |none=>rfl
  |some v=>exact clip_eq v n 0
 ·cases hi with
  |none=>rfl
  |some v=>exact clip_eq v n n
theorem places_gen (i j:Nat):hV (i:Int) (j:Int) 1=j-i:=by
 unfold hV;have h1:(1:Int)>0:=by omega
 simp![h1,if_true,Int.ediv_one];split<;>omega
theorem WT {v:o6}{o:om Int}{Q:om Int->o7->Prop}(p:VU v o)(h:Q o s):Va #[w,w] A (RZ v) Q E s:=by
 cases p with
 |none=>exact Rk h
 |int i t=>exact slicePart_int h
theorem jQ {sl:o3}{Z vu:o6}{lo hi:om Int}{n:Nat}{Q:Int×Int×Nat->o7->Prop}(hs:s.heap.IsSliceOf sl Z vu .none)(pl:VU Z lo)(pu:VU vu hi)
  (h:Q (((sIx n 0 lo:Nat):Int),1,sIx n n hi-sIx n 0 lo) s):Va #[w,w] A (rZ (.ref sl) (pure (n:Int))) Q E s:=by
 erw[id hs,os,O,aa,U];unfold rZ RT;refine Ab (Ab (vF O U (x:=Z) rfl (Ab (vF O U (x:=vu) rfl (Ab (vF O U (x:= .none) rfl (uE ?_)))))));refine Ab (Rk ?_);show Va _ _ (if((1:Int)==0)=v_ then _ else _) _ _ s
 rw [A2 ()]
 refine Ab (WT pl (Ab (WT pu (Ab (uE ?_)))));show Va _ _ (match tt lo hi 1 (n:Int) with|(lo,hi)=>pure (lo,(1:Int),hV lo hi 1)) _ _ s
 rw [adjust_gen lo hi n];show Va _ _ (pure (((sIx n 0 lo:Nat):Int),(1:Int),hV ((sIx n 0 lo:Nat):Int) ((sIx n n hi:Nat):Int) 1)) _ _ s;rw [places_gen];exact uE h
theorem pick_gen (xs:Array o6)(i k:Nat):((Vh k).filterMap λ(m:Nat)=>xs[((i:Int)+(m:Int)*1).toNat]?).toArray=((xs.toList.drop i).take k).toArray:=by
 have e:(λ(m:Nat)=>xs[((i:Int)+(m:Int)*1).toNat]?)=λm=>xs[i+m]? :=by
  funext m
  have:((i:Int)+(m:Int)*1).toNat=i+m:=by omega
  rw [this]
 rw [e];have:=pick_run xs i k;rw [List.filterMap_map] at this;have O:((λx=>xs[x]?)∘λx=>i+x)=λm=>xs[i+m]? :=rfl;rw [O] at this;rw [this]
theorem getItem_tuple_cut {t sl:o3}{items:Array o6}{vl vu:o6}{lo hi:om Int}{Q:o6->o7->Prop}(U:Gr s.heap t items)(hs:s.heap.IsSliceOf sl vl vu .none)(pl:VU vl lo)(pu:VU vu hi)
  (hw:¬(sIx items.size 0 lo=0/\sIx items.size items.size hi=items.size))
  (h:Q (.ref s.heap.objs.size) {s with heap:=s.heap.push {cls:= .type "tuple",data:= .seq ((items.toList.drop (sIx items.size 0 lo)).take (sIx items.size items.size hi-sIx items.size 0 lo)).toArray}})
  (hsz:items.size<=Vb):Va #[w,w] A (VL (.ref t) (.ref sl)) Q E s:=by
 have O:sizeOk (.seq ((items.toList.drop (sIx items.size 0 lo)).take (sIx items.size items.size hi-sIx items.size 0 lo)).toArray):=by
  show((items.toList.drop (sIx items.size 0 lo)).take (sIx items.size items.size hi-sIx items.size 0 lo)).toArray.size<=Vb;rw [uz,U2,vI,vo];omega
 have hj:sIx items.size items.size hi<=items.size:=sIx_le _ _ (uj _) hi;erw[id hs,os,Z,aa,ae];have ac:s.TypeIs (.ref sl) "slice":=[os:Z:aa];unfold VL
 try with_reducible refine VH ?_
 first|refine Ab (uE ?_)|skip
 refine Ab (RI U.typeIs () ?_)
 refine Ab (vG (name:=GC "__getitem__") U.typeIs vN
  (U3 vN U.typeIs Ff ?_ (Rl _ _)))
 show Va _ _ (FK (.ref t)>>=_) _ _ s;refine Ab (FI U ?_);refine Ab (Gj ac ?_);rw [Aa ()]
 refine Ab (jQ hs pl pu ?_);have ad:¬((((sIx items.size 0 lo:Nat):Int)==0&&(1:Int)==1&&(sIx items.size items.size hi-sIx items.size 0 lo)==items.size)=v_):=by
  intro q;rw [uw,uw] at q;have q1:((sIx items.size 0 lo:Nat):Int)=0:=eq_of_beq q.1.1;have q2:sIx items.size items.size hi-sIx items.size 0 lo=items.size:=eq_of_beq q.2;exact hw [():()]
 show Va _ _ (if(((sIx items.size 0 lo:Nat):Int)==0&&(1:Int)==1&&(sIx items.size items.size hi-sIx items.size 0 lo)==items.size)=v_ then _ else _) _ _ s
 rw [A2 ad,pick_gen]
 first
  |exact Ab (m:=HF _) (vB (uE ⟨0,uE h⟩) O)
  |exact Ab (m:=HF _) (vB (Ab (uE (uE ⟨0,uE h⟩))) O)
  |exact Ab (Ab (m:=HF _) (vB (uE (uE ⟨0,uE h⟩)) O))
  |exact Ab (Ab (m:=HF _) (vB (uE ⟨0,uE h⟩) O))
end
end HT
namespace L2
open PySem PySem.Spec PyProof.Rows
abbrev TO:=St->Hp->(om Int->Hp->Prop)->Prop
def PO (X:Cx)(e:om Expr)(t:TO):Prop:=
 ∀(oq:oj (o3×Obj)) (s:o7) (σ:St) (H:Hp) (Q:om Int->Hp->Prop),Inv X oq σ H s->t σ H Q->
  Va #[X,X] X.A (evalPart e X.env) (λu s'=>∃o H',Inv X oq σ H' s'/\VU u o/\Q o H') X.xe s
def wH:TO:=λ_ H Q=>Q U_ H
inductive ItPart (Q:(Option Int->Hp->Prop)) (x:V) (H1:Hp):Prop
 |mk (i:_) (_:x= .int i) (_:Q (u_ i) H1)
def tPart (t:TE):TO:=λσ H Q=>t σ H λx H1=>ItPart Q x H1
theorem intsAre_of {ns:oj Int}:∀{us:oj o6},Vals (ns.map V.int) us->Gf us ns:=by
 induction ns with
 |nil=>intro us r;rw [Uf] at r;cases r;exact .nil
 |cons n ns O=>
  intro us r;rw [ui] at r;cases r with
  |cons U Z=>
   erw[U,t,e];subst e;exact .cons n t (O Z)
section
variable {X:Cx}{e:Expr}{te:TE}{lo hi:om Expr}{tl th:TO}{pos p2:Pos}
theorem zw:PO X U_ wH:=by
 intro oq s σ H Q I h;rw [tj];exact uE ⟨U_,H,I,.none,h⟩
theorem YJ (h:PE X e te):PO X (u_ e) (tPart te):=by
 intro oq s σ H Q I O;rw [Fy];refine thn (h oq s σ H _ I O) λu s1 zq=> ?_;erw[zq,x,H1,U,Z,q1];erw[q1,i,rfl,q];erw[Z,t,rfl];exact⟨u_ i,H1,U,.int i t,q⟩
def SlR (X:Cx)(r:V->om Int->om Int->Hp->VK->Prop):Prop:=
 ∀(oq:oj (o3×Obj)) (s:o7) (σ:St) (H:Hp) (x:V) (v vl vu:o6) (lo hi:om Int) (sl:o3) (Q:VK),Inv X oq σ H s->RelV x v->s.heap.IsSliceOf sl vl vu .none->VU vl lo->VU vu hi->r x lo hi H Q->
  ∃T id,HG (.type T) "__getitem__"=pure (u_ (.builtin id))/\s.TypeIs v T/\Va #[X,X] X.A (VL v (.ref sl)) (EP X oq σ Q) X.xe s
theorem SlR.or {r O:V->om Int->om Int->Hp->VK->Prop}(h:SlR X r)(h':SlR X O):SlR X (λx lo hi H Q=>r x lo hi H Q∨O x lo hi H Q):=by
 intro oq s σ H x v U Z lo hi sl Q I rx hs pl pu q;rcases q with q|q
 ·exact h oq s σ H x v U Z lo hi sl Q I rx hs pl pu q
 ·exact h' oq s σ H x v U Z lo hi sl Q I rx hs pl pu q
def tSl (r:V->om Int->om Int->Hp->VK->Prop)(te:TE)(tl th:TO):TE:=λσ H Q=>te σ H λx H1=>tl σ H1 λl H2=>th σ H2 λu H3=>r x l u H3 Q
theorem YR {r:V->om Int->om Int->Hp->VK->Prop}(hr:SlR X r)(he:PE X e te)(hl:PO X lo tl)(hu:PO X hi th):PE X (.Subscript e (.Slice lo hi U_ p2) pos) (tSl r te tl th):=by
 intro oq s σ H Q I h;refine hZ (thn (he oq s σ H _ I h) λv s1 zq=> ?_);erw[zq,x,H1,I1,r1,q1];refine RN (thn (hl oq s1 σ H1 _ I1 q1) λU s2 ⟨l,H2,I2,pl,q2⟩=>thn (hu oq s2 σ H2 _ I2 q2) λZ O zq=> ?_);erw[zq,u,H3,I3,pu,q3];rw [tj];refine uE ?_;have I4:Inv X oq σ H3 {O with heap:=O.heap.push {cls:= .type "slice",data:= .fields #[U,Z,.none]}}:=I3.kept (t':=O.toks) λb ob q=>ue _ q
 erw[hr oq {O with heap:=O.heap.push {cls:= .type "slice",data:= .fields #[U,Z,.none]}} σ H3 x v U Z l u O.heap.objs.size Q I4 r1 (Fj ..) pl pu q3,T,id,hT,ht,hg]
 show Va #[X,X] X.A (Hw e (.Slice lo hi U_ p2) v (.ref O.heap.objs.size)) (EP X oq σ Q) X.xe {O with heap:=O.heap.push {cls:= .type "slice",data:= .fields #[U,Z,.none]}}
 exact HE (ops:= [.ref O.heap.objs.size,v]) ht hT hg #[w]
def cutV (xs:oj V)(lo hi:om Int):oj V:=(xs.drop (HT.sIx xs.length 0 lo)).take (HT.sIx xs.length xs.length hi-HT.sIx xs.length 0 lo)
theorem Z8 (xs:oj V)(lo hi:om Int):(cutV xs lo hi).length<=xs.length:=by
 unfold cutV;rw [U2,vI];omega
inductive rSlT (K:PySem.W.Frag) (x:V) (lo:Option Int) (hi:Option Int) (H:Hp) (Q:VK):Prop
 |mk (a:_) (xs:_) (_:x= .ref a) (_:SqT K H a xs) (_:¬(HT.sIx xs.length 0 lo=0/\HT.sIx xs.length xs.length hi=xs.length)) (_:∀p,H p=U_->Q (.ref p) (upd H p (.tup (cutV xs lo hi))))
theorem sl_tup:SlR X (rSlT X.K):=by
 intro oq s σ H x v vl vu lo hi sl Q I rx hs pl pu h;erw[h,a,xs,rfl,hx,hw,q];cases rx;erw[I.tuple hx,its,r,U,Z];have O:its.toArray.size=xs.length:=by rw [uz];exact r.length.symm
 exists "tuple",_,PyProof.Rows.slot_tuple_getitem.lookup,U.typeIs;refine HT.getItem_tuple_cut U hs pl pu (by rwa [O]) ?_ (by rwa [O])
 rw [O];refine⟨.ref s.heap.objs.size,_,I.laid (t':=s.toks) (o:= .tup (cutV xs lo hi)) (λb ob q=>ue _ q) (uj _) ?_,1,q _ (I.hok.fresh (uj _))⟩;exact⟨uM (Z8 xs lo hi) Z,_,(r.drop (HT.sIx xs.length 0 lo)).take (HT.sIx xs.length xs.length hi-HT.sIx xs.length 0 lo),Gh _ _⟩
inductive rCatT (K:PySem.W.Frag) (x:V) (y:V) (H:Hp) (Q:VK):Prop
 |mk (a:_) (b:_) (xs:_) (ys:_) (_:x= .ref a) (_:y= .ref b) (_:SqT K H a xs) (_:SqT K H b ys) (_:xs≠ []) (_:xs.length+ys.length<=Vb) (_:(ys= []->Q (.ref a) H)) (_:(ys≠ []->∀p,H p=U_->Q (.ref p) (upd H p (.tup (xs++ys)))))
variable {xs:oj V}{us:oj o6}
theorem Vals.nil_iff (r:Vals xs us):us= []↔xs= []:=by
 cases r with
 |nil=>simp
 |cons _ _=>simp
theorem op_catT:OpR X (VC .Add) (rCatT X.K):=by
 intro oq s σ H x y v u Q I rx ry h;erw[h,a,b,xs,ys,rfl,rfl,ha,hb,hx,Z,q1,q2];cases rx;cases ry;erw[I.tuple ha,its,U,p1,_];erw[I.tuple hb,aa,O,p2,_];refine HT.cat_tup p1 p2 (λz=>hx (U.nil_iff.mp z)) (λz=>⟨.ref a,H,I,1,q1 (O.nil_iff.mp z)⟩) (λz=> ?_) (by rwa [<-U.length,<-O.length])
 refine⟨.ref s.heap.objs.size,_,I.laid (t':=s.toks) (o:= .tup (xs++ys)) (λb ob q=>ue _ q) (uj _) ?_,1,q2 (λw=>z (O.nil_iff.mpr w)) _ (I.hok.fresh (uj _))⟩;exact⟨by rwa [uB],_,U.append O,Gh _ _⟩
end
def ixN (n:Nat)(i:Int):om Nat:=if 0<=i then(if i<n then u_ i.toNat else U_) else if-(n:Int)<=i then u_ (i+n).toNat else U_
def atI {α:Type}(xs:oj α)(i:Int):om α:=(ixN xs.length i).bind λj=>xs[j]?
variable {n j:Nat}{i:Int}
theorem ixN_seq (h:ixN n i=u_ j):seqIndex? i n=u_ j/\j<n/\ -(n:Int)<=i/\i<n:=by
 unfold ixN at h;by_cases h0:0<=i
 ·rw [Aa h0] at h;by_cases h1:i<n
  ·rw [Aa h1] at h;have e:i.toNat=j:=uK h;exact⟨by rw [tU h0 h1,e],(),(),h1⟩
  ·rw [A2 h1] at h;cases h
 ·rw [A2 h0] at h;by_cases h1: -(n:Int)<=i
  ·rw [Aa h1] at h;have e:(i+n).toNat=j:=uK h;exact⟨by rw [seqIndex_neg () h1,e],(),h1,()⟩
  ·rw [A2 h1] at h;cases h
theorem Kk {α:Type}{xs:oj α}{v:α}(h:atI xs i=u_ v):∃j,seqIndex? i xs.length=u_ j/\xs[j]? =u_ v/\j<xs.length/\ -(xs.length:Int)<=i/\i<xs.length:=by
 unfold atI at h;cases e:ixN xs.length i with
 |none=>rw [e] at h;cases h
 |some j=>
  rw [e] at h;erw[ixN_seq e,h1,h2,h3,h4];exact⟨j,h1,h,h2,h3,h4⟩
theorem Qc {α:Type}{xs:oj α}{v:α}(h:xs[j]? =u_ v):atI xs (j:Int)=u_ v:=by
 have O:j<xs.length:=(Ai.mp h).1;have e:ixN xs.length (j:Int)=u_ j:=by
  unfold ixN;rw [Aa (),Aa ()];simp
 unfold atI;rw [e];exact h
theorem yY {α:Type}(xs:oj α)(v:α):atI (xs++ [v]) (-1)=u_ v:=by
 have O:(xs++ [v]).length=xs.length+1:=by simp
 have e:ixN (xs++ [v]).length (-1)=u_ xs.length:=by
  unfold ixN;rw [O,A2 (),Aa ()]
  congr 1
  omega
 unfold atI;rw [e];show(xs++ [v])[xs.length]? =u_ v;simp
def PlainIx (b:Expr):Prop:=∀o i,GK b V9 o i=Hi [o,i] (VL o i)
def IxR (X:Cx)(r:R2):Prop:=
 ∀(value slice:Expr) (oq:oj (o3×Obj)) (s:o7) (σ:St) (H:Hp) (x y:V) (v u:o6) (Q:VK),Inv X oq σ H s->RelV x v->RelV y u->r x y H Q->
  GK slice V9 v u=Hi [v,u] (VL v u)->Va #[X,X] X.A (Hw value slice v u) (EP X oq σ Q) X.xe s
def MtR (X:Cx)(id:String)(r:V->oj V->Hp->VK->Prop):Prop:=
 ∀(oq:oj (o3×Obj)) (s:o7) (σ:St) (H:Hp) (x:V) (xs:oj V) (v:o6) (us:oj o6) (Q:VK),Inv X oq σ H s->RelV x v->Vals xs us->r x xs H Q->
  Va #[X,X] X.A (call (.builtin id) (v::us)) (EP X oq σ Q) X.xe s
section
variable {X:Cx}{a b:Expr}{ta tb:TE}{pos:Pos}
theorem IxR.or {r O:R2}(h:IxR X r)(h':IxR X O):IxR X (λx y H Q=>r x y H Q∨O x y H Q):=by
 intro value slice oq s σ H x y v u Q I U Z q hs;rcases q with q|q
 ·exact h value slice oq s σ H x y v u Q I U Z q hs
 ·exact h' value slice oq s σ H x y v u Q I U Z q hs
theorem qJ {r:R2}(O:IxR X r)(ha:PE X a ta)(U:PE X b tb)(Z:PlainIx b):PE X (.Subscript a b pos) (tOp r ta tb):=by
 intro oq s σ H Q I h;exact hZ (binT ha U I h λv u s2 x y H2 I2 rx ry q=>O a b oq s2 σ H2 x y v u Q I2 rx ry q (Z _ _))
inductive rIxL (K:PySem.W.Frag) (x:V) (y:V) (H:Hp) (Q:VK):Prop
 |mk (p:_) (xs:_) (i:_) (v:_) (_:x= .ref p) (_:y= .int i) (_:SqL K H p xs) (_:atI xs i=u_ v) (_:Q v H)
inductive rIxT (K:PySem.W.Frag) (x:V) (y:V) (H:Hp) (Q:VK):Prop
 |mk (p:_) (xs:_) (i:_) (v:_) (_:x= .ref p) (_:y= .int i) (_:SqT K H p xs) (_:atI xs i=u_ v) (_:Q v H)
inductive rIxS (x:V) (y:V) (H:Hp) (Q:VK):Prop
 |mk (z:_) (i:_) (c:_) (_:x= .str z) (_:y= .int i) (_:z.length<=Vb) (_:atI z.cps.toList i=u_ c) (_:Q (.str ⟨#[c]⟩) H)
theorem QO:IxR X (rIxL X.K):=by
 intro value slice oq s σ H x y v u Q I rx ry h Z;erw[h,p,xs,i,z,rfl,rfl,hq,he,q];cases rx;erw[ry,t,rfl];erw[I.list hq,its,r,pl,hz];erw[Kk he,j,h1,h2,h3,h4,h5];erw[r.get h2,w,ew,O];have hl:=r.length;have hn:=zS;have fin:EP X oq σ Q w s:=⟨z,H,I,O,q⟩;by_cases h0:0<=i
 ·have U:i.toNat=j:=by
   rw [tU h0 h5] at h1;exact uK h1
  exact item_listR pl.isList h0 () (by rw [U];simpa using ew) fin Z
 ·have U:(i+(its.toArray.size:Int)).toNat=j:=by
   rw [seqIndex_neg () h4] at h1
   rw [uz,<-hl];exact uK h1
  exact FN (x:=w) pl.isList.typeIs slot_list_getitem.lookup
   (wpAny_getItem_list_neg (Q:=λr s'=>r=w/\EP X oq σ Q r s') pl.isList () (by rw [uz]<;>omega) () (by rw [U];simpa using ew) [1:fin]) Z
theorem qI:IxR X (rIxT X.K):=by
 intro value slice oq s σ H x y v u Q I U Z h hs;erw[h,p,xs,i,z,rfl,rfl,hq,he,q];cases U;erw[Z,t,rfl];erw[I.tuple hq,its,r,pl,hz];erw[Kk he,j,h1,h2,h3,h4,h5];erw[r.get h2,w,ew,O];have hl:=r.length;have hn:=zS;have fin:EP X oq σ Q w s:=⟨z,H,I,O,q⟩;exact FN (x:=w) pl.typeIs slot_tuple_getitem.lookup
  (getItem_tuple (j:=j) (Q:=λr s'=>r=w/\EP X oq σ Q r s') pl () () (by rwa [uz,<-hl]) (by simpa using ew) [1:fin]) hs
theorem ix_str:IxR X rIxS:=by
 intro value slice oq s σ H x y v u Q I O U h Z;erw[h,z,i,c,rfl,rfl,hz,he,q];erw[O,t,rfl];erw[U,t',rfl];erw[Kk he,j,h1,h2,h3,h4,h5];have hl:z.cps.toList.length=z.length:=by simp [VQ]
 rw [hl] at h1 h4 h5;have hn:=zS;exact HE (vT s z t) slot_str_getitem.lookup (getItem_str (c:=c) (by
  have e1:decide (i< -(2^63:Int))=false:=uh ()
  have e2:decide (i≥2^63)=false:=uh ()
  rw [e1,e2,Bool.or_false]) (by rw [h1];simpa using h2) ⟨.str ⟨#[c]⟩,H,I.tok _,⟨0⟩,q⟩) Z
def rIx (K:o0):R2:=λx y H Q=>rIxL K x y H Q∨rIxT K x y H Q∨rIxS x y H Q
theorem J3:IxR X (rIx X.K):=QO.or (qI.or ix_str)
theorem mapSeq_set (its:oj o6)(n j:Nat)(u:o6):GV (·.setIfInBounds j u) {cls:= .type "list",data:= .seq its.toArray n}={cls:= .type "list",data:= .seq (its.set j u).toArray n}:=by
 simp [GV]
theorem Inv.lst {oq:oj (o3×Obj)}{σ:St}{H:Hp}{s:o7}{p:o3}{xs:oj V}(I:Inv X oq σ H s)(h:H p=u_ (.lst xs)):
  ∃(its:oj o6) (n:Nat),Vals xs its/\s.heap.get? p=u_ {cls:= .type "list",data:= .seq its.toArray n}/\xs.length<=sizeLine:=by
 erw[I.hok p _ h,z,its,n,r,e];exact⟨its,n,r,e,z⟩
theorem Inv.lstUpd {oq:oj (o3×Obj)}{σ:St}{H:Hp}{s:o7}{p:o3}{xs ys:oj V}{its its':oj o6}{n O:Nat}{f:Obj->Obj}(I:Inv X oq σ H s)(h:H p=u_ (.lst xs))
  (Z:s.heap.get? p=u_ {cls:= .type "list",data:= .seq its.toArray n}) (U:f {cls:= .type "list",data:= .seq its.toArray n}={cls:= .type "list",data:= .seq its'.toArray O}) (r:Vals ys its') (hz:ys.length<=Vb) (t:Nat) (ht:0<t:=by ac_rfl):
  Inv X oq σ (upd H p (.lst ys)) {s with heap:=s.heap.update p f,toks:=t}:=by
 have e:(s.heap.update p f).get? p=u_ {cls:= .type "list",data:= .seq its'.toArray O}:=by
  rw [T7 f Z (by rw [U]<;>rfl),U]
 refine I.write (x:=p) (e:=p) (by rw [h];trivial) (.inl rfl) (λb u hb q=>(Tg _ _ (UG hb)).trans q) [_:e] ?_
 exact⟨hz,its',O,r,e⟩
inductive rSetL (o:V) (i:V) (v:V) (H:Hp) (Q:(Hp->Prop)):Prop
 |mk (p:_) (xs:_) (k:_) (j:_) (_:o= .ref p) (_:i= .int k) (_:H p=u_ (.lst xs)) (_:ixN xs.length k=u_ j) (_:Q (upd H p (.lst (xs.set j v))))
theorem set_list:PSet X rSetL:=by
 intro oq s σ H o i v ov iv u Q I ro ri rv h;erw[h,p,xs,k,j,rfl,rfl,hp,hj,q];cases ro;erw[ri,t,rfl];erw[I.lst hp,its,n,r,O,hz];erw[ixN_seq hj,h1,h2,h3,h4];have U:=r.length;have hn:=zS;have I':Inv X oq σ (upd H p (.lst (xs.set j v))) {s with heap:=s.heap.update p (GV (·.setIfInBounds j u))}:=
  I.lstUpd hp O (mapSeq_set its n j u) (r.set rv j) (by rwa [List.length_set]) s.toks
 by_cases h0:0<=k
 ·have Z:k.toNat=j:=by
   rw [tU h0 h4] at h1;exact uK h1
  exact PySem.W.ki_setAt O h0 () (by rwa [uz,<-U]) (by rw [Z];exact[_:I':q])
 ·have Z:(k+(its.toArray.size:Int)).toNat=j:=by
   rw [seqIndex_neg () h3] at h1
   rw [uz,<-U];exact uK h1
  exact PySem.W.ki_setBack O () (by rwa [uz,<-U]) () (by rw [Z];exact[_:I':q])
theorem slice_bounds (lo hi:om Int)(n:Nat):(VX lo hi U_ n).1=((HT.sIx n 0 lo:Nat):Int)/\(VX lo hi U_ n).2.1=((HT.sIx n n hi:Nat):Int)/\(VX lo hi U_ n).2.2=1:=by
 refine[?_:?_:1]
 ·cases lo with
  |none=>simp [VX,HT.sIx]
  |some i=>
   simp![VX,HT.sIx,Re,show(1:Int)>0 by decide,if_true]
   by_cases h:i<0
   ·simp![h,if_true]<;>omega
   ·simp![h,if_false]<;>omega
 ·cases hi with
  |none=>simp [VX,HT.sIx]
  |some i=>
   simp![VX,HT.sIx,Re,show(1:Int)>0 by decide,if_true]
   by_cases h:i<0
   ·simp![h,if_true]<;>omega
   ·simp![h,if_false]<;>omega
theorem Kc (its:oj o6)(lo hi:om Int):tF its.toArray lo hi U_=((its.drop (HT.sIx its.length 0 lo)).take (HT.sIx its.length its.length hi-HT.sIx its.length 0 lo)).toArray:=by
 erw[slice_bounds lo hi its.toArray.size,h1,h2,h3];unfold tF;rw [h1,h2,h3];simp![sliceRange_one,pick_run,uz]<;>rfl
inductive rSlL (K:PySem.W.Frag) (x:V) (lo:Option Int) (hi:Option Int) (H:Hp) (Q:VK):Prop
 |mk (a:_) (xs:_) (_:x= .ref a) (_:SqL K H a xs) (_:∀p,H p=U_->Q (.ref p) (upd H p (.lst (cutV xs lo hi))))
theorem sl_list:SlR X (rSlL X.K):=by
 intro oq s σ H x v vl vu lo hi sl Q I Z hs pl pu h;erw[h,a,xs,rfl,hx,q];cases Z;erw[I.list hx,its,r,U,hz];have O:=r.length;exists "list",_,slot_list_getitem.lookup,U.isList.typeIs;refine RL U.isList hs pl pu .none (by simp) ?_ (by rw [uz]<;>omega)
 rw [Kc,<-O];refine⟨.ref s.heap.objs.size,_,I.laid (t':=s.toks) (o:= .lst (cutV xs lo hi)) (λb ob q=>ue _ q) (uj _) ?_,1,q _ (I.hok.fresh (uj _))⟩;exact⟨uM (Z8 xs lo hi) hz,_,(0),(r.drop (HT.sIx xs.length 0 lo)).take (HT.sIx xs.length xs.length hi-HT.sIx xs.length 0 lo),uH _ rfl⟩
def Zw:V->Bool
 | .non=>v_
 | .bl _=>v_
 | .int _=>v_
 | .str _=>v_
 |_=>V9
def eqV:V->V->Bool
 | .non,.non=>v_
 | .bl a,.bl b=>a==b
 | .bl a,.int b=>(if a then 1 else 0)==b
 | .int a,.bl b=>a==(if b then 1 else 0)
 | .int a,.int b=>a==b
 | .str a,.str b=>a==b
 |_,_=>V9
variable {A:oh}{s:o7}{y:V}
theorem eqAt_V {x:V}{u v:o6}(U:RelV y u)(O:RelV x v)(fy:Zw y=v_)(Z:Zw x=v_):Vr A s u v (eqV y x):=by
 cases y with
 |non=>
  cases U;cases x with
  |non=>cases O;exact h_ _
  |bl b=>cases O;exact pK b
  |int b=>erw[O,t,rfl];exact rR b t
  |str b=>erw[O,t,rfl];exact RG b t
  |_=>exact absurd (show V9=v_ from Z) u5
 |bl a=>
  cases U;cases x with
  |non=>cases O;exact pc a
  |bl b=>cases O;exact RX a b
  |int b=>erw[O,t,rfl];exact pd a b t
  |str b=>erw[O,t,rfl];exact pf a b t
  |_=>exact absurd (show V9=v_ from Z) u5
 |int a=>
  erw[U,t',rfl];cases x with
  |non=>cases O;exact rO a t'
  |bl b=>cases O;exact p9 a t' b
  |int b=>erw[O,t,rfl];exact tO a t' b t
  |str b=>erw[O,t,rfl];exact UO a t' b t
  |_=>exact absurd (show V9=v_ from Z) u5
 |str a=>
  erw[U,t',rfl];cases x with
  |non=>cases O;exact Rp a t'
  |bl b=>cases O;exact ph a t' b
  |int b=>erw[O,t,rfl];exact UP a t' b t
  |str b=>erw[O,t,rfl];exact HY a t' b t
  |_=>exact absurd (show V9=v_ from Z) u5
 |_=>exact absurd (show V9=v_ from fy) u5
def eqU (x:V)(u:o6):Bool:=match u with
 | .none=>eqV .non x
 | .bool b=>eqV (.bl b) x
 | .int i _=>eqV (.int i) x
 | .str z _=>eqV (.str z) x
 |_=>V9
theorem eqU_of {x:V}{u:o6}(r:RelV y u)(f:Zw y=v_):eqU x u=eqV y x:=by
 cases y with
 |non=>cases r;rfl
 |bl b=>cases r;rfl
 |int i=>erw[r,t,rfl];rfl
 |str z=>erw[r,t,rfl];rfl
 |_=>exact absurd (show V9=v_ from f) u5
theorem any_eqU {x:V}:∀{xs:oj V}{us:oj o6},Vals xs us->xs.all Zw=v_->us.any (eqU x)=xs.any λy=>eqV y x
 |_,_,.nil,_=>rfl
 |y::xs,u::us,.cons r t,f=>by
  rw [vy,uw] at f;rw [UD,UD,eqU_of r f.1,any_eqU t f.2]
theorem KR {A:oh}{s:o7}{x:V}{v:o6}(U:RelV x v)(Z:Zw x=v_):∀{xs:oj V}{us:oj o6},Vals xs us->xs.all Zw=v_->∀u∈us,Vr A s u v (eqU x u)
 |_,_,.nil,_=>λu O=>by cases O
 |y::xs,u::us,.cons r t,f=>λu' O=>by
  rw [vy,uw] at f;rcases Ac.mp O with rfl|O
  ·rw [eqU_of r f.1];exact eqAt_V r U f.1 Z
  ·exact KR U Z t f.2 u' O
def inV (x:V)(xs:oj V):Bool:=xs.any λy=>eqV y x
inductive rIn (K:PySem.W.Frag) (neg:Bool) (x:V) (y:V) (H:Hp) (Q:VK):Prop
 |mk (p:_) (xs:_) (_:y= .ref p) (_:(SqL K H p xs∨SqT K H p xs)) (_:Zw x=v_) (_:xs.all Zw=v_) (_:Q (.bl (if neg then !inV x xs else inV x xs)) H)
theorem Qt:OpR X (Vm .In) (rIn X.K V9):=by
 intro oq s σ H x y v u Q I Z ry h;erw[h,p,xs,rfl,O,fx,fs,q];cases ry;rcases O with O|O
 ·erw[I.list O,its,r,pl,hz];refine Fn (eqU x) pl.isList (λw U=>KR Z fx r fs w (by simpa using U)) ⟨.bl _,H,I,1,?_⟩
  rw [show its.toArray.any (eqU x)=its.any (eqU x) by simp,any_eqU r fs]
  exact q
 ·erw[I.tuple O,its,r,pl,hz];refine FQ (eqU x) pl (λw U=>KR Z fx r fs w (by simpa using U)) ⟨.bl _,H,I,1,?_⟩
  rw [show its.toArray.any (eqU x)=its.any (eqU x) by simp,any_eqU r fs]
  exact q
theorem op_notIn_str:OpR X (Vm .NotIn) (λx y H Q=>∃i j,x= .str i/\y= .str j/\Q (.bl (!(!(GR j i 0 j.length 1).isEmpty))) H):=by
 intro oq s σ H x y v u Q I O U h;erw[h,i,j,rfl,rfl,q];erw[O,t,rfl];erw[U,t',rfl];exact notIn_str ⟨.bl _,H,I,1,q⟩
theorem qP:Y6 X (.builtin "len") (λxs H Q=>∃p ys,xs= [.ref p]/\(SqL X.K H p ys∨SqT X.K H p ys)/\Q (.int ys.length) H):=by
 intro oq s σ H xs us Q I r h;erw[h,p,ys,rfl,U,q];erw[JR r,u,rfl,rx];cases rx;have hn:=zS;rcases U with U|U
 ·erw[I.list U,its,Z,pl,hz];have O:=Z.length;exact Rh pl.isList (by simp![uz]<;>omega) ⟨.int ys.length,H,I.tok _,⟨s.toks+1,by rw [uz,O]⟩,q⟩
 ·erw[I.tuple U,its,Z,pl,hz];have O:=Z.length;exact len_tuple pl (by simp![uz]<;>omega) ⟨.int ys.length,H,I.tok _,⟨s.toks+1,by rw [uz,O]⟩,q⟩
theorem zG:Y6 X (.builtin "len") (λxs H Q=>∃z,xs= [.str z]/\z.length<=Vb/\Q (.int z.length) H):=by
 intro oq s σ H xs us Q I r h;erw[h,z,rfl,O,q];erw[JR r,u,rfl,t,rfl];have hn:=zS;exact len_str () ⟨.int z.length,H,I.tok _,⟨0⟩,q⟩
theorem qG:Y6 X (.type "tuple") (λxs H Q=>∃p ys,xs= [.ref p]/\((SqL X.K H p ys/\∀l,H l=U_->Q (.ref l) (upd H l (.tup ys)))∨(SqT X.K H p ys/\Q (.ref p) H))):=by
 intro oq s σ H xs us Q I r h;erw[h,p,ys,rfl,h];erw[JR r,u,rfl,rx];cases rx;rcases h with⟨O,q⟩|⟨O,q⟩
 ·erw[I.list O,its,U,pl,Z];have aa:=U.length;refine call_tuple_list pl.isList (λh' kp=> ?_) (by simp![uz]<;>omega)
  have I1:Inv X oq σ H {s with heap:=h'}:=I.kept (t':=s.toks) kp
  have I2:Inv X oq σ (upd H h'.objs.size (.tup ys)) {s with heap:=h'.push {cls:= .type "tuple",data:= .seq its.toArray}}:=
   I1.laid (t':=s.toks) (λb o e=>ue _ e) (uj _) (show yc X.prog X.w _ _ _ (.tup ys) from⟨Z,its,U,Gh _ _⟩)
  exact⟨.ref h'.objs.size,_,I2,1,q _ (I1.hok.fresh (uj _))⟩
 ·erw[I.tuple O,its,U,pl,Z];exact call_tuple_same pl ⟨.ref p,H,I,1,q⟩
def tyV (K:o0)(T:String)(x:V)(H:Hp):Prop:=match x with
 | .str _=>T="str"
 | .int _=>T="int"
 | .ref p=>(T="list"/\∃xs,SqL K H p xs)∨(T="tuple"/\∃o,K.lookup p=u_ o/\o.cls= .type "tuple"/\o.dict=U_)∨
   (T="dict"/\((∃kvs,H p=u_ (.dK kvs))∨∃kvs,H p=u_ (.dT kvs)))∨(T="set"/\∃S n,H p=u_ (.set S n))
 |_=>False
variable {oq:oj (o3×Obj)}{σ:St}{H:Hp}
theorem tyV_is {T:String}{x:V}{v:o6}(I:Inv X oq σ H s)(r:RelV x v)(ty:tyV X.K T x H):
  s.TypeIs v T/\∀a,v= .ref a->∃ob,s.heap.get? a=u_ ob/\ob.dict=none:=by
 cases x with
 |str z=>
  erw[r,t,rfl];cases(show T="str" from ty)
  exact[vT s z t:λ_ e=>nomatch e]
 |int i=>
  erw[r,t,rfl];cases(show T="int" from ty)
  exact[V8 s i t:λ_ e=>nomatch e]
 |ref p=>
  cases r;rcases ty with⟨rfl,xs,Z⟩|⟨rfl,o,O,hc,hd⟩|⟨rfl,O⟩|⟨rfl,S,n,O⟩
  ·erw[I.list Z,its,_,pl,_];refine[pl.isList.typeIs:λa e=> ?_];cases e;erw[pl,o,n,e,c,hd,_];exact[o:e:hd]
  ·refine[[o:I.kIn p o O:hc]:λa e=> ?_];cases e;exact[o:I.kIn _ o O:hd]
  ·have z:∃o,s.heap.get? p=u_ o/\o.ExactDict:=by
    rcases O with⟨kvs,O⟩|⟨kvs,O⟩
    ·erw[I.hok p _ O,_,_,_,_,o,_,_,e,ex,_];exact[o:e:ex]
    ·erw[I.hok p _ O,_,_,_,_,o,_,_,e,ex,_];exact[o:e:ex]
   erw[z,o,e,ex];refine[[o:e:ex.1]:λa U=> ?_];cases U;exact[o:e:ex.2.1]
  ·erw[I.hok p _ O,o,_,_,_,e,ex,_];refine[[o:e:ex.1]:λa U=> ?_];cases U;exact[o:e:ex.2.1]
 |_=>exact VA ty
def tBM0 (K:o0)(T:String)(r:V->oj V->Hp->VK->Prop)(to:TE):TE:=λσ H Q=>to σ H λx H1=>tyV K T x H1/\r x [] H1 Q
def tBM (K:o0)(T:String)(r:V->oj V->Hp->VK->Prop)(to:TE)(t:TA):TE:=λσ H Q=>to σ H λx H1=>tyV K T x H1/\t σ H1 λxs H2=>r x xs H2 Q
variable {o e:Expr}{es:oj Expr}{to:TE}{t:TA}{name:Str}{apos cpos:Pos}{T id:String}{r:V->oj V->Hp->VK->Prop}
theorem pe_bm0 (pa:tT T)(slot:Slot T name id)(Z:typeOf (.builtin id)=pure (.type "method_descriptor"))(hm:MtR X id r)(ho:PE X o to)
  (O:VZ o name X.env (eval o X.env)=eval o X.env) (U:(apos.endLine==cpos.line)=v_):PE X (.Call (.Attribute o name apos) [] [] cpos) (tBM0 X.K T r to):=by
 intro oq s σ H Q I h;refine RK O U (thn (ho oq s σ H _ I h) λv s1 zq=> ?_);erw[zq,x,H1,I1,r1,ty,q1];erw[tyV_is I1 r1 ty,h1,h2];exact⟨T,id,pa,slot,Z,h1,h2,vK rfl (PySem.evalArgs_none (hm oq s1 σ H1 x [] v [] Q I1 r1 .nil q1))⟩
theorem YL (pa:tT T)(slot:Slot T name id)(ac:typeOf (.builtin id)=pure (.type "method_descriptor"))(hm:MtR X id r)(ho:PE X o to)(ha:PA X (e::es) t)
  (U:VZ o name X.env (eval o X.env)=eval o X.env:=by rfl)
  (aa:((Vn cpos (Ve (e::es) X.env)).all (λx=> !x.1)&&(Gm cpos (Gg [] X.env)).all (λx=>x.1.isSome)
   &&decide ((e::es).length+([]:oj gW).length+(if([]:oj gW).isEmpty then 0 else 1)<30))=true:=by rfl)
  (Z:(apos.endLine==cpos.line)=true:=by rfl) (hs:Ve (e::es) X.env=(V9,eval e X.env)::Ve es X.env:=by rfl) (O:(Vn cpos (Ve es X.env)).any (·.1)=false:=by rfl):
  PE X (.Call (.Attribute o name apos) (e::es) [] cpos) (tBM X.K T r to t):=by
 intro oq s σ H Q I h;refine wpAny_Call_method_late U aa Z rfl (thn (ho oq s σ H _ I h) λv s1 zq=> ?_);erw[zq,x,H1,I1,r1,ty,q1];erw[tyV_is I1 r1 ty,h1,h2];exists T,id,pa,slot,ac,h1,h2;have hA:=ha cpos oq s1 σ H1 _ I1 q1;rw [hs] at hA⊢;refine vK (by show(V9||(Vn cpos (Ve es X.env)).any (·.1))=V9;rw [O]<;>rfl) (Ub ?_)
 exact thn hA λus s2 ⟨vs,H2,I2,r2,q2⟩=>hm oq s2 σ H2 x vs v us Q I2 r1 r2 q2
end
def MtM (X:Cx)(id:String)(r:V->oj V->Hp->VK->Prop):Prop:=
 ∀(oq:oj (o3×Obj)) (s:o7) (σ:St) (H:Hp) (x:V) (xs:oj V) (v:o6) (us:oj o6) (Q:VK),Inv X oq σ H s->RelV x v->Vals xs us->r x xs H Q->
  Va #[X,X] X.A (call (.builtin id) (v::us)) (EP X oq σ Q) X.xe s
theorem Vals.one:∀{x:V}{us:oj o6},Vals [x] us->∃u,us= [u]/\RelV x u
 |_,_,.cons r .nil=>[0:r]
theorem Vals.zero:∀{us:oj o6},Vals [] us->us= []
 |_,.nil=>rfl
variable {xs:oj V}{us:oj o6}
theorem Vals.dropLast (h:Vals xs us):Vals xs.dropLast us.dropLast:=by
 induction h with
 |nil=>exact .nil
 |cons r t O=>
  cases t with
  |nil=>exact .nil
  |cons q t'=>exact .cons r O
theorem Vals.rep {xs:oj V}{us:oj o6}(h:Vals xs us):∀k:Nat,Vals (Vl k xs).flatten (Vl k us).flatten
 |0=> .nil
 |k+1=>by
  rw [vX,vX,UE,UE];exact Vals.append h (Vals.rep h k)
theorem erase_last {α:Type}(l:oj α):l.eraseIdx (l.length-1)=l.dropLast:=by
 induction l with
 |nil=>rfl
 |cons a r O=>
  cases r with
  |nil=>rfl
  |cons b r=>
   have e:(a::b::r).length-1=((b::r).length-1)+1:=by
    have h1:(a::b::r).length=r.length+2:=rfl;have h2:(b::r).length=r.length+1:=rfl;omega
   rw [e,List.eraseIdx_cons_succ,O]
   all_goals rfl
theorem foldl_rep (its:oj o6):∀(k:Nat) (O:oj o6),
  RD (λx1 x2=>x1++x2) O.toArray (Vl k its.toArray)=(O++(Vl k its).flatten).toArray
 |0,O=>by simp
 |k+1,O=>by
  have e:O.toArray++its.toArray=(O++its).toArray:=by simp
  have U:(O++its)++(Vl k its).flatten=O++(Vl (k+1) its).flatten:=by
   rw [vX,UE,vv]
  rw [<-U,<-foldl_rep its k (O++its),<-e,vX,List.foldl_cons]
section
variable {X:Cx}{oq:oj (o3×Obj)}{σ:St}{H:Hp}{s:o7}{l b:o3}{xs ys zs:oj V}
theorem Inv.lset {its its':oj o6}{n:Nat}{f:Array o6->Array o6}{t':Nat}(I:Inv X oq σ H s)(O:H l=u_ (.lst xs))
  (e:s.heap.get? l=u_ {cls:= .type "list",data:= .seq its.toArray n}) (U:f its.toArray=its'.toArray) (Z:Vals ys its') (hz:ys.length<=Vb) (ht:0<t':=by ac_rfl):
  Inv X oq σ (upd H l (.lst ys)) {s with heap:=s.heap.update l (GV f),toks:=t'}:=by
 have q:=PySem.IsL.update e f;rw [U] at q;refine I.write (x:=l) (e:=l) (by rw [O];exact trivial) (.inl rfl) (λb' u hb hu=>(Tg s.heap (GV f) (UG hb)).trans hu) [_:q] ?_
 exact⟨hz,its',_,Z,q⟩
variable {its:oj o6}{t':Nat}
theorem Inv.lnew (I:Inv X oq σ H s)(O:Vals ys its)(U:ys.length<=Vb)(Z:0<t':=by ac_rfl):
  Inv X oq σ (upd H s.heap.objs.size (.lst ys)) {s with heap:=s.heap.push {cls:= .type "list",data:= .seq its.toArray},toks:=t'}:=
 I.laid (λ_ _ q=>ue _ q) (uj _) ⟨U,its,(0),O,uH _ rfl⟩
theorem Inv.fresh (I:Inv X oq σ H s):H s.heap.objs.size=none:=I.hok.fresh (uj _)
theorem Inv.lstM (I:Inv X oq σ H s)(O:H l=u_ (.lst xs)):xs.length<=Vb/\∃(its:oj o6) (n:Nat),Vals xs its/\xs.length=its.length/\s.heap.get? l=u_ {cls:= .type "list",data:= .seq its.toArray n}:=by
 erw[I.hok l _ O,z,its,n,r,e];exact⟨z,its,n,r,r.length,e⟩
theorem notLongL (h:n<=Vb):Tn n=false:=by
 unfold Tn;exact uh ()
end
section
variable {X:Cx}
inductive rAppend (x:V) (vs:List V) (H:Hp) (Q:VK):Prop
 |mk (l:_) (xs:_) (y:_) (_:x= .ref l) (_:vs= [y]) (_:H l=u_ (.lst xs)) (_:xs.length<Vb) (_:Q .non (upd H l (.lst (xs++ [y]))))
theorem yb:MtM X "list.append" rAppend:=by
 intro oq s σ H x vs v us Q I U rv h;erw[h,l,xs,y,rfl,rfl,O,Z,q];cases U;erw[rv.one,u,rfl,ru];erw[I.lstM O,z,its,n,r,hl,e];refine vn F.slot_list_append [_:e:1] F.entry_list_append (F.args_list_append_2 _ _) (PySem.list_append l its.toArray n u (by rw [uz];omega)) [e:?_]
 refine⟨.non,_,I.lset (its':=its++ [u]) O e (by simp) (r.append (.cons ru .nil)) ?_,1,q⟩
 rw [uB,vq];omega
inductive rExtend (x:V) (vs:List V) (H:Hp) (Q:VK):Prop
 |mk (l:_) (b:_) (xs:_) (zs:_) (_:x= .ref l) (_:vs= [.ref b]) (_:H l=u_ (.lst xs)) (_:H b=u_ (.lst zs)) (_:xs.length+zs.length<=Vb) (_:Q .non (upd H l (.lst (xs++zs))))
theorem mt_extend:MtM X "list.extend" rExtend:=by
 intro oq s σ H x vs v us Q I rx rv h;erw[h,l,b,xs,zs,rfl,rfl,Z,hB,hz,q];cases rx;erw[rv.one,u,rfl,ru];cases ru;erw[I.lstM Z,z,its,n,r,hl,e];erw[I.lstM hB,z2,O,n2,r2,aa,e2];have hsz:its.toArray.size+O.toArray.size<=sizeLine:=by rw [uz,uz];omega
 have U:¬(!its.toArray.isEmpty&&Tn (its.toArray.size+O.toArray.size))=true:=by
  rw [notLongL hsz,tZ];exact u5
 refine vn F.slot_list_extend [_:e:1] F.entry_list_extend (F.args_list_extend_2 _ _)
  (R_ l its.toArray n b O.toArray n2 U (by rw [uz];omega) ()) [e:e2:?_]
 refine⟨.non,_,I.lset (its':=its++O) Z e (by simp) (r.append r2) ?_,1,q⟩
 rw [uB];omega
inductive rPop (x:V) (vs:List V) (H:Hp) (Q:VK):Prop
 |mk (l:_) (xs:_) (y:_) (_:x= .ref l) (_:vs= []) (_:H l=u_ (.lst xs)) (_:xs[xs.length-1]? =u_ y) (_:Q y (upd H l (.lst xs.dropLast)))
theorem mt_pop:MtM X "list.pop" rPop:=by
 intro oq s σ H x vs v us Q I rx rv h;erw[h,l,xs,y,rfl,rfl,Z,hy,q];cases rx;have O:=rv.zero;subst O;erw[I.lstM Z,z,its,n,r,hl,e];erw[r.get hy,u,hu,ru];have U:its.toArray[its.toArray.size-1]? =u_ u:=by
  show its.toArray[its.length-1]? =u_ u;rwa [<-rT,<-hl]
 refine vn F.slot_list_pop [_:e:1] F.entry_list_pop (F.args_list_pop_1 _) (pC l its.toArray n u U (by rw [uz];omega)) [e:?_]
 refine⟨y,_,I.lset (its':=its.dropLast) Z e ?_ r.dropLast ?_,ru,q⟩
 ·show its.toArray.eraseIdxIfInBounds (its.toArray.size-1)=its.dropLast.toArray;rw [uz,List.eraseIdxIfInBounds_toArray,erase_last]
 ·rw [List.length_dropLast];omega
inductive rCat (x:V) (y:V) (H:Hp) (Q:VK):Prop
 |mk (l:_) (b:_) (xs:_) (zs:_) (_:x= .ref l) (_:y= .ref b) (_:H l=u_ (.lst xs)) (_:H b=u_ (.lst zs)) (_:xs.length+zs.length<=Vb) (_:∀p,H p=U_->Q (.ref p) (upd H p (.lst (xs++zs))))
theorem op_cat:OpR X (VC .Add) rCat:=by
 intro oq s σ H x y v u Q I U Z h;erw[h,l,b,xs,zs,rfl,rfl,hH,hB,hz,q];cases U;cases Z;erw[I.lstM hH,z,its,n,r,hl,e];erw[I.lstM hB,z2,O,n2,r2,aa,e2];refine PySem.P.add_list e e2 ?_ (by rw [uz,uz];omega)
 have ea:its.toArray++O.toArray=(its++O).toArray:=by simp
 rw [ea];exact⟨.ref _,_,I.lnew (t':=s.toks) (r.append r2) (by rw [uB];omega),1,q _ I.fresh⟩
theorem len_rep {α:Type}(xs:oj α)(k:Nat):(Vl k xs).flatten.length=k*xs.length:=by
 induction k with
 |zero=>simp
 |succ k O=>rw [vX,UE,uB,O,RB,rD]
end
section
variable {prog:o9}{w:og}{A:oh}{E:o6->o7->Prop}{s:o7}
set_option maxRecDepth 100000 in
end
section
variable {κ:Type}[DecidableEq κ]
def valV (kvs:oj (κ×V))(k:κ):om V:=(kvs.find? λkv=>decide (kv.1=k)).map (·.2)
def putK (kvs:oj (κ×V))(k:κ)(v:V):oj (κ×V):=
 if(kvs.any λkv=>decide (kv.1=k))=v_ then kvs.map (λkv=>if kv.1=k then(kv.1,v) else kv) else kvs++ [(k,v)]
def jm (kvs:oj (κ×V))(k:κ):oj (κ×V):=kvs.filter λkv=>decide (kv.1≠k)
theorem Kr {k:κ}:valV ([]:oj (κ×V)) k=none:=rfl
theorem QM {p:κ×V}{r:oj (κ×V)}{k:κ}(e:p.1=k):valV (p::r) k=u_ p.2:=by simp [valV,v7,e]
theorem QG {p:κ×V}{r:oj (κ×V)}{k:κ}(e:¬p.1=k):valV (p::r) k=valV r k:=by simp [valV,v7,e]
theorem JJ (k:κ):∀kvs:oj (κ×V),(kvs.any λkv=>decide (kv.1=k))=(valV kvs k).isSome
 | []=>rfl
 |p::r=>by
  rw [UD];by_cases e:p.1=k
  ·simp![QM e,uf e,Bool.true_or,Option.isSome_some]
  ·rw [QG e,uh e,R1];exact JJ k r
theorem valV_map (k j:κ)(y:V):∀kvs:oj (κ×V),valV (kvs.map λkv=>if kv.1=k then(kv.1,y) else kv) j=(valV kvs j).map λx=>if j=k then y else x
 | []=>rfl
 |p::r=>by
  have O:=valV_map k j y r;rw [ui];by_cases h:p.1=k
  ·rw [Aa h];by_cases e:p.1=j
   ·rw [QM (p:=(p.1,y)) e,QM e,HA,Aa (e.symm.trans h)]
   ·rw [QG (p:=(p.1,y)) e,QG e,O]
  ·rw [A2 h];by_cases e:p.1=j
   ·rw [QM (p:=p) e,QM e,HA,A2 (λz=>h (e.trans z))]
   ·rw [QG (p:=p) e,QG e,O]
theorem valV_snoc (k j:κ)(y:V):∀kvs:oj (κ×V),valV kvs k=U_->valV (kvs++ [(k,y)]) j=if j=k then u_ y else valV kvs j
 | [],_=>by
  by_cases e:k=j
  ·rw [Aa e.symm];exact QM (p:=(k,y)) e
  ·rw [A2 (λz=>e z.symm)];exact QG (p:=(k,y)) e
 |p::r,hn=>by
  rw [Ui];have O:¬p.1=k:=λz=>by rw [QM z] at hn;cases hn
  rw [QG O] at hn;have U:=valV_snoc k j y r hn;by_cases e:p.1=j
  ·rw [QM e,QM e,A2 (λz=>O (e.trans z))]
  ·rw [QG e,QG e,U]
theorem Xk (kvs:oj (κ×V))(k j:κ)(y:V):valV (putK kvs k y) j=if j=k then u_ y else valV kvs j:=by
 unfold putK;by_cases a:(kvs.any λkv=>decide (kv.1=k))=v_
 ·rw [Aa a,valV_map];rw [JJ] at a;by_cases e:j=k
  ·erw[Option.isSome_iff_exists.mp a,x,O];rw [Aa e,e,O,HA,Aa rfl]
  ·rw [A2 e];cases valV kvs j with
   |none=>rfl
   |some x=>rw [HA,A2 e]
 ·rw [A2 a];refine valV_snoc k j y kvs ?_;rw [JJ] at a;cases q:valV kvs k with
  |none=>rfl
  |some x=>rw [q] at a;exact(a rfl).elim
theorem yM (kvs:oj (κ×V))(k:κ)(v:V):(putK kvs k v).length<=kvs.length+1:=by
 unfold putK;split
 ·rw [uc];omega
 ·rw [uB,um,Uy];omega
variable {kvs:oj (κ×V)}
theorem Kj {k:κ}(v:V)(h:valV kvs k=U_):putK kvs k v=kvs++ [(k,v)]:=by
 unfold putK;rw [JJ,h];exact A2 ()
theorem RelO.isSome_eq {o:om V}{u:om o6}(r:RelO o u):o.isSome=u.isSome:=by
 cases o with
 |none=>cases u with
  |none=>rfl
  |some _=>exact(show False from r).elim
 |some _=>cases u with
  |none=>exact(show False from r).elim
  |some _=>rfl
theorem RelO.getD {o:om V}{u:om o6}{d:V}{d':o6}(r:RelO o u)(rd:RelV d d'):RelV (o.getD d) (u.getD d'):=by
 cases o with
 |none=>cases u with
  |none=>exact rd
  |some _=>exact(show False from r).elim
 |some _=>cases u with
  |none=>exact(show False from r).elim
  |some _=>exact r
variable {vs:oj (κ×o6)}
theorem KV.val (r:KV kvs vs)(k:κ):RelO (valV kvs k) (gV vs k):=by
 unfold KV at r
 induction r with
 |nil=>exact VF
 | @cons p q ps qs h t ih=>
  erw[h,h1,h2];by_cases e:p.1=k
  ·have O:q.1=k:=h1.symm.trans e;have b:gV (q::qs) k=u_ q.2:=by simp [gV,v7,O]
   rwa [QM e,b]
  ·have O:¬q.1=k:=λz=>e (h1.trans z);have b:gV (q::qs) k=gV qs k:=by simp [gV,v7,O]
   rw [QG e,b];exact ih
theorem KV.any (r:KV kvs vs)(k:κ):(kvs.any λkv=>decide (kv.1=k))=vs.any λkv=>decide (kv.1=k):=by
 unfold KV at r
 induction r with
 |nil=>rfl
 |cons h t O=>rw [UD,UD,O,h.1]
variable {y:V}
theorem KV.repl (r:KV kvs vs)(k:κ){u:o6}(O:RelV y u):
  KV (kvs.map λkv=>if kv.1=k then(kv.1,y) else kv) (vs.map λkv=>if kv.1=k then(kv.1,u) else kv):=by
 unfold KV at r⊢
 induction r with
 |nil=>exact .nil
 | @cons p q ps qs h t ih=>
  rw [ui,ui];refine .cons ?_ ih;erw[h,h1,h2];by_cases e:p.1=k
  ·rw [Aa e,Aa (h1.symm.trans e)];exact[h1:O]
  ·rw [A2 e,A2 (λz=>e (h1.trans z))];exact[h1:h2]
theorem KV.put (r:KV kvs vs)(k:κ){u:o6}(O:RelV y u):KV (putK kvs k y) (Gb vs k u):=by
 unfold putK Gb;rw [r.any k];by_cases e:(vs.any λkv=>decide (kv.1=k))=v_
 ·rw [Aa e,Aa e];exact r.repl k O
 ·rw [A2 e,A2 e];exact Paired.snoc r [1:O]
theorem KV.drop (r:KV kvs vs)(k:κ):KV (jm kvs k) (without vs k):=by
 unfold KV at r⊢;unfold jm without
 induction r with
 |nil=>exact .nil
 | @cons p q ps qs h t ih=>
  erw[h,h1,h2];rw [vz,vz];by_cases e:p.1=k
  ·have a:¬decide (p.1≠k)=true:=by simp [e]
   have b:¬decide (q.1≠k)=true:=by simp [h1.symm.trans e]
   rw [A2 a,A2 b];exact ih
  ·have O:¬q.1=k:=λz=>e (h1.trans z);have a:decide (p.1≠k)=true:=by simp [e]
   have b:decide (q.1≠k)=true:=by simp [O]
   rw [Aa a,Aa b];exact .cons [h1:h2] ih
theorem KV.keys (r:KV kvs vs):kvs.map (·.1)=vs.map (·.1):=by
 unfold KV at r
 induction r with
 |nil=>rfl
 |cons h t O=>rw [ui,ui,O,h.1]
theorem KV.length (r:KV kvs vs):kvs.length=vs.length:=Paired.length r
theorem dropK_le (kvs:oj (κ×V))(k:κ):(jm kvs k).length<=kvs.length:=Uz _ _
end
variable {w:og}
theorem kV_is {P:o9}{k:Key}{u:o6}(r:RelV (kV k) u):(Qe P w).is k u=true:=by
 cases k with
 |inl i=>obtain⟨t,e⟩:=(show∃t,u=gT i t from r);subst e;exact mixKind_int P w i t
 |inr x=>obtain⟨t,e⟩:=(show∃t,u=Vy x t from r);subst e;exact Z5 P w x t
theorem items_are {P:o9}{w:og}:∀{ks:oj Key}{us:oj o6},Vals (ks.map kV) us->ItemsAre (Qe P w) ks us
 | [],_,r=>by rw [Uf] at r;cases r;exact .nil
 |k::ks,_,r=>by
  rw [ui] at r;cases r with
  |cons h t=>exact .cons (kV_is h) (items_are t)
abbrev KT (H:Hp):oj (oj Key×V)->oj (oj Key×o3×o6)->Prop:=Paired λp q=>p.1=q.1/\H q.2.1=u_ (.tup (p.1.map kV))/\RelV p.2 q.2.2
variable {H:Hp}
theorem KT.val {kvs:oj (oj Key×V)}{xs:oj (oj Key×o3×o6)}(r:KT H kvs xs)(k:oj Key):RelO (valV kvs k) ((gR xs k).map (·.2)):=by
 induction r with
 |nil=>exact VF
 | @cons p q ps qs h t ih=>
  erw[h,h1,_,h2];by_cases e:p.1=k
  ·have O:q.1=k:=h1.symm.trans e;have b:gR (q::qs) k=u_ q.2:=by simp [gR,v7,O]
   rwa [QM e,b]
  ·have O:¬q.1=k:=λz=>e (h1.trans z);have b:gR (q::qs) k=gR qs k:=by simp [gR,v7,O]
   rw [QG e,b];exact ih
variable {y:V}
theorem KT.repl {kvs:oj (oj Key×V)}{xs:oj (oj Key×o3×o6)}(r:KT H kvs xs)(k:oj Key){u:o6}(O:RelV y u):
  KT H (kvs.map λkv=>if kv.1=k then(kv.1,y) else kv) (xs.map (putAt k u)):=by
 induction r with
 |nil=>exact .nil
 | @cons p q ps qs h t ih=>
  rw [ui,ui];refine .cons ?_ ih;erw[h,h1,h2,h3];unfold putAt;by_cases e:p.1=k
  ·rw [Aa e,Aa (h1.symm.trans e)];exact[h1:h2:O]
  ·rw [A2 e,A2 (λz=>e (h1.trans z))];exact[h1:h2:h3]
variable {b:o3}
theorem KT.put {kvs:oj (oj Key×V)}{xs:oj (oj Key×o3×o6)}(r:KT H kvs xs)(k:oj Key){u:o6}(U:H b=u_ (.tup (k.map kV)))(O:RelV y u):
  KT H (putK kvs k y) (storedH xs k b u):=by
 have e:(kvs.any λkv=>decide (kv.1=k))=(gR xs k).isSome:=by
  rw [JJ,(r.val k).isSome_eq,Ti]
 unfold putK storedH;rw [e];by_cases q:(gR xs k).isSome=v_
 ·rw [Aa q,Aa q];exact r.repl k O
 ·rw [A2 q,A2 q];exact Paired.snoc r [1:U:O]
variable {H':Hp}
theorem KT.keeps {kvs:oj (oj Key×V)}{xs:oj (oj Key×o3×o6)}(r:KT H kvs xs)(O:∀b ys,H b=u_ (.tup ys)->H' b=u_ (.tup ys)):KT H' kvs xs:=
 Paired.mapP r λ_ _ z=>[z.1:O _ _ z.2.1:z.2.2]
section
variable {P:o9}{w:og}{H:Hp}{h:o8}{a:o3}
theorem rd_of {u:HO}(ok:HOk P w H h)(e:Rd H a u):yc P w H h a u:=e.ok ok
theorem ZV {kvs:oj (Key×V)}(ok:HOk P w H h)(e:Rd H a (.dK kvs)):kvs.length<=Vb/\(a==Vu)=V9/\∃vs,KV kvs vs/\h.DictOf (Qe P w) a vs:=
 show yc P w H h a (.dK kvs) from rd_of ok e
theorem dk_of {kvs:oj (Key×V)}(ok:HOk P w H h)(e:H a=u_ (.dK kvs)):kvs.length<=Vb/\(a==Vu)=V9/\∃vs,KV kvs vs/\h.DictOf (Qe P w) a vs:=ZV ok (.inl e)
theorem WP {ks:oj Key}(ok:HOk P w H h)(e:H a=u_ (.tup (ks.map kV))):(Gu (Qe P w)).is h ks a:=by
 obtain⟨_,its,r,o,h1,h2,n,h3⟩:=(show yc P w H h a (.tup (ks.map kV)) from ok a _ e)
 exact⟨o,its.toArray,n,h1,h2,h3,by simpa using items_are r⟩
theorem dt_rd {kvs:oj (oj Key×V)}(ok:HOk P w H h)(e:Rd H a (.dT kvs)):kvs.length<=Vb/\(a==Vu)=V9/\
  ∃xs,KT H kvs xs/\h.DictOfH (Gu (Qe P w)) a xs:=by
 obtain⟨z,y,xs,r,o,es,ep,h1,h2,h3,h4,h5⟩:=(show yc P w H h a (.dT kvs) from rd_of ok e)
 refine⟨z,y,xs,r,o,es,ep,h1,h2,h3,h4,λx O=> ?_,h5⟩;have all:∀{l:oj (oj Key×V)}{m:oj (oj Key×o3×o6)},KT H l m->∀x∈m,(Gu (Qe P w)).is h x.1 x.2.1:=by
  intro l m q
  induction q with
  |nil=>intro x O;exact nomatch O
  | @cons p q ps qs hq t ih=>
   intro x O;rcases Ac.mp O with e|O
   ·subst e;exact WP ok (by rw [<-hq.1];exact hq.2.1)
   ·exact ih x O
 exact all r x O
theorem dt_of {kvs:oj (oj Key×V)}(ok:HOk P w H h)(e:H a=u_ (.dT kvs)):kvs.length<=Vb/\(a==Vu)=V9/\
  ∃xs,KT H kvs xs/\h.DictOfH (Gu (Qe P w)) a xs:=dt_rd ok (.inl e)
end
def DGet (H:Hp)(a:o3)(y:V)(r:om V):Prop:=
 (∃kvs k,Rd H a (.dK kvs)/\y=kV k/\r=valV kvs k)∨∃kvs k b,Rd H a (.dT kvs)/\y= .ref b/\H b=u_ (.tup (k.map kV))/\r=valV kvs k
def DPut (H:Hp)(a:o3)(y v:V)(H':Hp):Prop:=
 (∃kvs k,H a=u_ (.dK kvs)/\y=kV k/\kvs.length<Vb/\H'=upd H a (.dK (putK kvs k v)))∨
 ∃kvs k b,H a=u_ (.dT kvs)/\y= .ref b/\H b=u_ (.tup (k.map kV))/\kvs.length<Vb/\H'=upd H a (.dT (putK kvs k v))
theorem DGet.k {H:Hp}{a:o3}{kvs:oj (Key×V)}{k:Key}(e:H a=u_ (.dK kvs)):DGet H a (kV k) (valV kvs k):= .inl ⟨kvs,k,.inl e,1,1⟩
theorem DPut.k {H:Hp}{a:o3}{kvs:oj (Key×V)}{k:Key}{v:V}(e:H a=u_ (.dK kvs))(O:kvs.length<Vb):DPut H a (kV k) v (upd H a (.dK (putK kvs k v))):= .inl ⟨kvs,k,e,1,O,1⟩
section
variable {X:Cx}{oq:oj (o3×Obj)}{σ:St}{H:Hp}{s:o7}{a:o3}{y v:V}{u r:o6}{o:om V}{A:oh}{E:o6->o7->Prop}
theorem Inv.big (I:Inv X oq σ H s):Vu<s.heap.objs.size:=by
 have h:Vv<s.heap.objs.size:=(I.mod.glob.keeps I.bk).lt;exact Hq () h
theorem d_getItem {Q:o6->o7->Prop}(hu:A.units+1<Vj)(I:Inv X oq σ H s)(g:DGet H a y (u_ v))(ry:RelV y u)(h:∀U s',Inv X oq σ H s'->RelV v U->Q U s'):
  Va #[X,X] A (VL (.ref a) u) Q E s:=by
 rcases g with⟨kvs,k,e,Z,l⟩|⟨kvs,k,b,e,Z,eb,l⟩
 ·subst Z;erw[ZV I.hok e,z,hd,vs,rel,dd];obtain⟨U,hw,O⟩:=RelO.some_of (v:=v) (o:=gV vs k) (by rw [l];exact rel.val k)
  exact rg (kV_is ry) dd.mapOf hw (h U _ (I.tok _) O)
 ·subst Z;cases(show u=Vf b from ry)
  erw[dt_rd I.hok e,z,hd,xs,rel,dd];obtain⟨U,hw,O⟩:=RelO.some_of (v:=v) (o:=(gR xs k).map (·.2)) (by rw [l];exact rel.val k)
  erw[Option.map_eq_some_iff.mp hw,p,hp,aa];refine wpAny_getItem_heap (Up hu) (WP I.hok eb) dd hp ?_;rw [aa];exact h U _ (I.tok _) O
theorem d_in {Q:o6->o7->Prop}(Z:A.units+1<Vj)(I:Inv X oq σ H s)(g:DGet H a y o)(U:RelV y u)(h:∀s',Inv X oq σ H s'->Q (.bool o.isSome) s'):
  Va #[X,X] A (Vm .In u (.ref a)) Q E s:=by
 rcases g with⟨kvs,k,e,O,l⟩|⟨kvs,k,b,e,O,eb,l⟩
 ·subst O;erw[ZV I.hok e,z,hd,vs,rel,dd];refine FD (kV_is U) hd dd.mapOf ?_;rw [<-(rel.val k).isSome_eq,<-l];exact h _ (I.tok _)
 ·subst O;cases(show u=Vf b from U)
  erw[dt_rd I.hok e,z,hd,xs,rel,dd];refine wpAny_in_heap (Up Z) (WP I.hok eb) hd dd ?_;have q:=(rel.val k).isSome_eq;rw [Ti] at q;rw [<-q,<-l];exact h _ (I.tok _)
theorem d_notIn {Q:o6->o7->Prop}(Z:A.units+1<Vj)(I:Inv X oq σ H s)(g:DGet H a y o)(U:RelV y u)(h:∀s',Inv X oq σ H s'->Q (.bool (!o.isSome)) s'):
  Va #[X,X] A (Vm .NotIn u (.ref a)) Q E s:=by
 rcases g with⟨kvs,k,e,O,l⟩|⟨kvs,k,b,e,O,eb,l⟩
 ·subst O;erw[ZV I.hok e,z,hd,vs,rel,dd];refine RE (kV_is U) hd dd.mapOf ?_;rw [<-(rel.val k).isSome_eq,<-l];exact h _ (I.tok _)
 ·subst O;cases(show u=Vf b from U)
  erw[dt_rd I.hok e,z,hd,xs,rel,dd];refine wpAny_notIn_heap (Up Z) (WP I.hok eb) hd dd ?_;have q:=(rel.val k).isSome_eq;rw [Ti] at q;rw [<-q,<-l];exact h _ (I.tok _)
variable {h':o8}{t':Nat}
theorem d_write {ob:HO}(I:Inv X oq σ H s)(mu:Mut (H a))(O:GO a s.heap h')(U:∃q,h'.get? a=u_ q)(new:yc X.prog X.w (upd H a ob) h' a ob)(ht:0<t':=by ac_rfl):
  Inv X oq σ (upd H a ob) {s with heap:=h',toks:=t'}:=
 I.write (x:=a) (e:=a) mu (.inl rfl) (λb q Z z=>(O.2 b Z).trans z) U new
theorem dk_new {P:o9}{kvs:oj (Key×V)}{vs:oj (Key×o6)}(z:kvs.length<=Vb)(hd:(a==Vu)=V9)(rel:KV kvs vs)(dd:h'.DictOf (Qe P w) a vs):
  yc P w H' h' a (.dK kvs):=⟨z,hd,vs,rel,dd⟩
theorem d_setItem {Q:Unit->o7->Prop}(hu:A.units+1<Vj)(I:Inv X oq σ H s)(g:DPut H a y v H')(ry:RelV y u)(rv:RelV v r)(h:∀s',Inv X oq σ H' s'->Q Go s'):
  Va #[X,X] A (Tt (.ref a) u r) Q E s:=by
 rcases g with⟨kvs,k,e,Z,l,eH⟩|⟨kvs,k,b,e,Z,eb,l,eH⟩
 ·subst Z eH;erw[dk_of I.hok e,z,hd,vs,rel,dd];have hz:vs.length<=sizeLine:=by rwa [<-rel.length]
  have hl:(putK kvs k v).length<=sizeLine:=by have:=yM kvs k v;omega
  refine wpAny_setItem_pairs (hsz:=hz) (kV_is ry) dd λh' O hs=>h _ ?_;have he:∃q,h'.get? a=u_ q:=let⟨q,_,_,U,_⟩:=O;[q:U];exact d_write I (by rw [e];exact VF) hs he (dk_new hl hd (rel.put k rv) O)
 ·subst Z eH;cases(show u=Vf b from ry)
  erw[dt_of I.hok e,z,hd,xs,rel,dd];have hz:xs.length<=sizeLine:=by rwa [<-Paired.length rel]
  have hl:(putK kvs k v).length<=sizeLine:=by have:=yM kvs k v;omega
  refine wpAny_setItem_heap (hsz:=hz) (Up hu) (WP I.hok eb) dd λh' O hs=>h _ ?_;erw[O,q,es,ep,U,h2,h3,h4,_,h5];refine d_write I (by rw [e];exact VF) hs [q:U] ⟨hl,hd,_,(rel.put k eb rv).keeps λc ys ec=> ?_,q,es,ep,U,h2,h3,h4,h5⟩
  rw [qh (ne_of ec e (λz=>nomatch z))];exact ec
end
section
variable {X:Cx}{oq:oj (o3×Obj)}{σ:St}{H:Hp}{s:o7}{a:o3}{kvs:oj (Key×V)}{k:Key}{u:o6}{A:oh}{E:o6->o7->Prop}
theorem d_pop {v:V}{more:oj o6}{Q:o6->o7->Prop}(I:Inv X oq σ H s)(e:H a=u_ (.dK kvs))(Z:RelV (kV k) u)(l:valV kvs k=u_ v)(hm:more= []∨∃x,more= [x])
  (h:∀O s',Inv X oq σ (upd H a (.dK (jm kvs k))) s'->RelV v O->Q O s'):Va #[X,X] A (call (.builtin "dict.pop") (.ref a::u::more)) Q E s:=by
 erw[dk_of I.hok e,z,hd,vs,rel,dd];obtain⟨O,hw,aa⟩:=RelO.some_of (v:=v) (o:=gV vs k) (by rw [<-l];exact rel.val k)
 have hp:(keyPart u).isSome=true:=by
  cases k with
  |inl i=>obtain⟨t,q⟩:=(show∃t,u=gT i t from Z);subst q;rfl
  |inr x=>obtain⟨t,q⟩:=(show∃t,u=Vy x t from Z);subst q;rfl
 have ha:argsOk "dict.pop" ⟨.ref a::u::more,[]⟩:=by
  rcases hm with q|⟨x,q⟩
  ·subst q;exact PySem.F.args_dict_pop_2 _ _
  ·subst q;exact PySem.F.args_dict_pop_3 _ _ _
 refine GP UA dd.typeIs PySem.F.entry_dict_pop ha (meets_dict_pop_there (Qe X.prog X.w) a (kV_is Z) more hm hp)
  ⟨vs,O,dd,by rwa [<-rel.length],hw,λh' U hs=>h O _ ?_ aa⟩
 have he:∃q,h'.get? a=u_ q:=let⟨q,_,_,hq,_⟩:=U;[q:hq];exact d_write I (by rw [e];exact VF) hs he (dk_new (uM (dropK_le kvs k) z) hd (rel.drop k) U)
theorem d_popD {r:o6}{Q:o6->o7->Prop}(I:Inv X oq σ H s)(e:H a=u_ (.dK kvs))(O:RelV (kV k) u)(l:valV kvs k=U_)(h:∀s',Inv X oq σ H s'->Q r s'):
  Va #[X,X] A (call (.builtin "dict.pop") [.ref a,u,r]) Q E s:=by
 erw[dk_of I.hok e,z,hd,vs,rel,dd];have hn:gV vs k=none:=RelO.kW (by rw [<-l];exact rel.val k)
 have U:(keyPart u).isSome=true:=by
  cases k with
  |inl i=>obtain⟨t,q⟩:=(show∃t,u=gT i t from O);subst q;rfl
  |inr x=>obtain⟨t,q⟩:=(show∃t,u=Vy x t from O);subst q;rfl
 exact GP UA dd.typeIs PySem.F.entry_dict_pop (PySem.F.args_dict_pop_3 _ _ _) (meets_dict_pop_default (Qe X.prog X.w) a (kV_is O) hd U r) ⟨vs,dd,hn,h _ (I.tok _)⟩
theorem d_len {Q:o6->o7->Prop}(I:Inv X oq σ H s)(e:Rd H a (.dK kvs))(h:∀t s',Inv X oq σ H s'->Q (.int kvs.length t) s'):Va #[X,X] A (call (.builtin "len") [.ref a]) Q E s:=by
 erw[ZV I.hok e,z,hd,vs,rel,dd];refine call_len_dict hd dd (by rw [<-rel.length];rw [uF] at z;omega) ?_
 rw [<-rel.length];exact h _ _ (I.tok _)
end
def NoSl (i:Expr):Prop:=∀ov iv,GK i V9 ov iv=Hi [ov,iv] (VL ov iv)
theorem subD_of {prog:o9}{w:og}{A:oh}{E:o6->o7->Prop}{s:o7}{env:Env}{value slice:Expr}{pos:Pos}{T id:String}{Q:o6->o7->Prop}
  (hl:HG (.type T) "__getitem__"=pure (u_ (.builtin id))) (hs:NoSl slice)
  (h:Va #[w,w] A (eval value env) (λo Z=>Va #[w,w] A (eval slice env) (λi O=>O.TypeIs o T/\Va #[w,w] A (VL o i) Q E O) E Z) E s):
  Va #[w,w] A (eval (.Subscript value slice pos) env) Q E s:=by
 refine hZ (vS h (λo Z h₁=>vS h₁ (λi O U=> ?_) λ_ _ x=>x) λ_ _ x=>x);erw[U,hT,U];unfold Hw;refine Ab ?_;rw [getitemInPython_of_ne hT.not_modules];refine Ab (wpAny_specialOf hT hl ?_);have fin:Va #[w,w] A (GK slice V9 o i) (λr s₃=>Va #[w,w] A (letTemporaryGo value o r>>=λ_=>pure r) Q E s₃) E O:=by
  rw [hs o i];exact wpAny_operating (vS U (λr s₃ h₃=>Ab (wpAny_letTemporaryGo (uE h₃))) λ_ _ x=>x)
 first
  |exact uE (Ab fin)
  |exact Ab (uE (Ab fin))
  |exact Ab fin
variable {X:Cx}{oq:oj (o3×Obj)}{σ:St}{s:o7}{a:o3}
theorem dict_typeIs {o:om V}(I:Inv X oq σ H s)(g:DGet H a y o):s.TypeIs (.ref a) "dict":=by
 rcases g with⟨kvs,k,e,_,_⟩|⟨kvs,k,b,e,_,_,_⟩
 ·erw[ZV I.hok e,_,_,vs,_,dd];exact dd.typeIs
 ·erw[dt_rd I.hok e,_,_,xs,_,dd];exact dd.typeIs
theorem dict_noDict {o:om V}(I:Inv X oq σ H s)(g:DGet H a y o):
  ∀b,Vf a= .ref b->∃ob,s.heap.get? b=u_ ob/\ob.dict=none:=λb q=>by
 cases q;rcases g with⟨kvs,k,e,_,_⟩|⟨kvs,k,b,e,_,_,_⟩
 ·erw[ZV I.hok e,_,_,vs,_,ob,_,_,h1,h2,_];exact[ob:h1:h2.2.1]
 ·erw[dt_rd I.hok e,_,_,xs,_,ob,_,_,h1,h2,_];exact[ob:h1:h2.2.1]
inductive ItDGet (Q:VK) (x:V) (y:V) (H2:Hp):Prop
 |mk (a:_) (v:_) (_:x= .ref a) (_:DGet H2 a y (u_ v)) (_:Q v H2)
def tDGet (td ty:TE):TE:=λσ H Q=>td σ H λx H1=>ty σ H1 λy H2=>ItDGet Q x y H2
inductive ItDIn (Q:VK) (y:V) (x:V) (H2:Hp):Prop
 |mk (a:_) (o:_) (_:x= .ref a) (_:DGet H2 a y o) (_:Q (.bl o.isSome) H2)
def tDIn (ty td:TE):TE:=λσ H Q=>ty σ H λy H1=>td σ H1 λx H2=>ItDIn Q y x H2
inductive ItDNotIn (Q:VK) (y:V) (x:V) (H2:Hp):Prop
 |mk (a:_) (o:_) (_:x= .ref a) (_:DGet H2 a y o) (_:Q (.bl (!o.isSome)) H2)
def tDNotIn (ty td:TE):TE:=λσ H Q=>ty σ H λy H1=>td σ H1 λx H2=>ItDNotIn Q y x H2
inductive IsDPut (D:Ends) (σ:St) (v:V) (x:V) (y:V) (H3:Hp):Prop
 |mk (a:_) (H4:_) (_:x= .ref a) (_:DPut H3 a y v H4) (_:D.nx σ H4)
def sDPut (td ty tv:TE):TS:=λD σ H=>tv σ H λv H1=>td σ H1 λx H2=>ty σ H2 λy H3=>IsDPut D σ v x y H3
section
variable {X:Cx}{o i e value:Expr}{pos pos' tpos:Pos}{td ty tv:TE}
theorem Qz (Z:X.A.units+1<Vj)(ho:PE X o td)(hi:PE X i ty)(hs:NoSl i):PE X (.Subscript o i pos) (tDGet td ty):=by
 intro oq s σ H Q I h;refine subD_of PySem.F.slot_dict_getitem.lookup hs (thn (ho oq s σ H _ I h) λu s1 ⟨x,H1,I1,rx,q1⟩=>thn (hi oq s1 σ H1 _ I1 q1) λiv s2 zq=> ?_);erw[zq,y,H2,U,ry,a,v,ex,g,q2];subst ex;obtain rfl:u=Vf a:=rx;exact[dict_typeIs U g:d_getItem Z U g ry λw' s3 I3 O=>⟨v,H2,I3,O,q2⟩]
theorem pc_din (O:X.A.units+1<Vj)(hi:PE X i ty)(U:PE X o td):PC X .In i o (tDIn ty td):=by
 intro oq s σ H Q I h;refine thn (hi oq s σ H _ I h) λiv s1 ⟨y,H1,Z,ry,q1⟩=>thn (U oq s1 σ H1 _ Z q1) λu s2 zq=> ?_;erw[zq,x,H2,I2,rx,a,ov,ex,g,q2];subst ex;obtain rfl:u=Vf a:=rx;exact d_in O I2 g ry λs3 I3=>⟨.bl ov.isSome,H2,I3,1,q2⟩
theorem pc_dnotin (O:X.A.units+1<Vj)(hi:PE X i ty)(U:PE X o td):PC X .NotIn i o (tDNotIn ty td):=by
 intro oq s σ H Q I h;refine thn (hi oq s σ H _ I h) λiv s1 ⟨y,H1,Z,ry,q1⟩=>thn (U oq s1 σ H1 _ Z q1) λu s2 zq=> ?_;erw[zq,x,H2,I2,rx,a,ov,ex,g,q2];subst ex;obtain rfl:u=Vf a:=rx;exact d_notIn O I2 g ry λs3 I3=>⟨.bl (!ov.isSome),H2,I3,1,q2⟩
theorem Js (O:X.A.units+1<Vj)(U:PE X o td)(hi:PE X i ty)(Z:PE X value tv)(hs:GS value (u_ (.Subscript o i pos')) pos.line X.env=pure V9):
  PS X (.Assign [.Subscript o i pos'] value pos) (sDPut td ty tv):=by
 intro oq s σ H D I h;refine wpAny_Assign_Subscript (thn (Z oq s σ H _ I h) λr s1 ⟨v,H1,I1,rv,q1⟩=>thn (U oq s1 σ H1 _ I1 q1) λu s2 ⟨x,H2,I2,rx,q2⟩=>thn (hi oq s2 σ H2 _ I2 q2) λiv s3 zq=> ?_) hs;erw[zq,y,H3,I3,ry,a,H4,ex,g,q3];subst ex;obtain rfl:u=Vf a:=rx;exact d_setItem O I3 g ry rv λs4 I4=>⟨σ,H4,I4,q3⟩
end
theorem dk_empty {P:o9}(h:o8)(O:Vu<h.objs.size):yc P w H (h.push {cls:= .type "dict",data:= .dict #[]}) h.objs.size (.dK []):=
 ⟨vf _,beq_eq_false_iff_ne.mpr (UG (uS O)),[],.nil,FR h⟩
def tDNewK:TE:=λ_ H Q=>∀p,H p=U_->Q (.ref p) (upd H p (.dK []))
section
variable {X:Cx}{pos:Pos}
theorem ZA:PE X (.Dict [] [] pos) tDNewK:=λoq s σ H Q I h=>
 wpAny_Dict_empty ⟨.ref s.heap.objs.size,_,I.laid (a:=s.heap.objs.size) (o:= .dK []) (t':=s.toks) (λ_ _ q=>ue _ q) (uj _) (dk_empty s.heap I.big),1,h _ (I.hok.fresh (uj _))⟩
end
structure M1 (X:Cx)(o:Expr)(m:Str)(apos:Pos)(e:Expr)(cpos:Pos):Prop where
 base:VZ o m X.env (eval o X.env)=eval o X.env
 few:((Vn cpos (Ve [e] X.env)).all (λx=> !x.1)&&(Gm cpos (Gg [] X.env)).all (λx=>x.1.isSome)
  &&decide (([e]:oj Expr).length+([]:oj gW).length+(if([]:oj gW).isEmpty then 0 else 1)<30))=v_
 line:(apos.endLine==cpos.line)=v_
 trees:Vn cpos (Ve [e] X.env)= [(V9,eval e X.env)]
structure M2 (X:Cx)(o:Expr)(m:Str)(apos:Pos)(e f:Expr)(cpos:Pos):Prop where
 base:VZ o m X.env (eval o X.env)=eval o X.env
 few:((Vn cpos (Ve [e,f] X.env)).all (λx=> !x.1)&&(Gm cpos (Gg [] X.env)).all (λx=>x.1.isSome)
  &&decide (([e,f]:oj Expr).length+([]:oj gW).length+(if([]:oj gW).isEmpty then 0 else 1)<30))=v_
 line:(apos.endLine==cpos.line)=v_
 trees:Vn cpos (Ve [e,f] X.env)= [(V9,eval e X.env),(V9,eval f X.env)]
def IsD (H:Hp)(a:o3):Prop:=(∃kvs,Rd H a (.dK kvs))∨∃kvs,Rd H a (.dT kvs)
theorem isD_at (I:Inv X oq σ H s)(d:IsD H a):
  s.TypeIs (.ref a) "dict"/\(∀b,Vf a= .ref b->∃ob,s.heap.get? b=u_ ob/\ob.dict=U_)/\(a==Vu)=false:=by
 rcases d with⟨kvs,e⟩|⟨kvs,e⟩
 ·erw[ZV I.hok e,_,hd,vs,_,dd];refine[dd.typeIs:λb q=> ?_:hd];cases q;erw[dd,ob,_,_,h1,h2,_];exact[ob:h1:h2.2.1]
 ·erw[dt_rd I.hok e,_,hd,xs,_,dd];refine[dd.typeIs:λb q=> ?_:hd];cases q;erw[dd,ob,_,_,h1,h2,_];exact[ob:h1:h2.2.1]
section
variable {X:Cx}{oq:oj (o3×Obj)}{σ:St}{H:Hp}{s:o7}{a:o3}{y d:V}{u r:o6}{o:om V}{A:oh}{E:o6->o7->Prop}
theorem d_get1 {Q:o6->o7->Prop}(hu:A.units+1<Vj)(I:Inv X oq σ H s)(g:DGet H a y o)(U:RelV y u)(h:∀Z s',Inv X oq σ H s'->RelV (o.getD .non) Z->Q Z s'):
  Va #[X,X] A (call (.builtin "dict.get") [.ref a,u]) Q E s:=by
 rcases g with⟨kvs,k,e,O,l⟩|⟨kvs,k,b,e,O,eb,l⟩
 ·subst O;erw[ZV I.hok e,z,hd,vs,rel,dd];refine GP PySem.F.slot_dict_get dd.typeIs PySem.F.entry_dict_get (PySem.F.args_dict_get_2 _ _) (meets_dict_get (Qe X.prog X.w) a (kV_is U) hd) [_:dd.mapOf:h _ _ (I.tok _) ?_];rw [l];exact(rel.val k).getD rfl
 ·subst O;cases(show u=Vf b from U)
  erw[dt_rd I.hok e,z,hd,xs,rel,dd];refine GP PySem.F.slot_dict_get dd.typeIs PySem.F.entry_dict_get (PySem.F.args_dict_get_2 _ _) (meetsH_dict_get (Gu (Qe X.prog X.w)) a b hd) ⟨Up hu,k,xs,WP I.hok eb,dd,h _ _ (I.tok _) ?_⟩;rw [l];exact(rel.val k).getD rfl
end
inductive ItDGet1 (ty:TE) (σ:St) (Q:VK) (x:V) (H1:Hp):Prop
 |mk (a:_) (_:x= .ref a) (_:IsD H1 a) (_:ty σ H1 λy H2=>∃o,DGet H2 a y o/\Q (o.getD .non) H2)
def tDGet1 (td ty:TE):TE:=λσ H Q=>td σ H λx H1=>ItDGet1 ty σ Q x H1
inductive ItDPop1 (ty:TE) (σ:St) (Q:VK) (x:V) (H1:Hp):Prop
 |mk (a:_) (_:x= .ref a) (_:IsD H1 a) (_:ty σ H1 λy H2=>∃kvs k v,H2 a=u_ (.dK kvs)/\y=kV k/\valV kvs k=u_ v/\Q v (upd H2 a (.dK (jm kvs k))))
def tDPop1 (td ty:TE):TE:=λσ H Q=>td σ H λx H1=>ItDPop1 ty σ Q x H1
inductive ItDPop2 (ty tx:TE) (σ:St) (Q:VK) (x:V) (H1:Hp):Prop
 |mk (a:_) (_:x= .ref a) (_:IsD H1 a) (_:ty σ H1 λy H2=>tx σ H2 λz H3=>∃kvs k,H3 a=u_ (.dK kvs)/\y=kV k/\(∀v,valV kvs k=u_ v->Q v (upd H3 a (.dK (jm kvs k))))/\(valV kvs k=U_->Q z H3))
def tDPop2 (td ty tx:TE):TE:=λσ H Q=>td σ H λx H1=>ItDPop2 ty tx σ Q x H1
section
variable {X:Cx}{o e f:Expr}{apos cpos:Pos}{td ty tx:TE}
theorem pe_dget1 (Z:X.A.units+1<Vj)(ho:PE X o td)(he:PE X e ty)(m:M1 X o "get" apos e cpos):PE X (.Call (.Attribute o "get" apos) [e] [] cpos) (tDGet1 td ty):=by
 intro oq s σ H Q I h;refine Tl m.base m.few m.line Ug PySem.F.slot_dict_get PySem.F.type_dict_get (thn (ho oq s σ H _ I h) λu s1 zq=> ?_);erw[zq,x,H1,U,rx,a,ex,d,q1];subst ex;obtain rfl:u=Vf a:=rx;erw[isD_at U d,t1,t2,_];exists t1,t2;rw [m.trees];refine vK rfl (Ub (U5 (thn (he oq s1 σ H1 _ U q1) λiv s2 ⟨y,H2,I2,ry,ov,g,q2⟩=>UC ?_)));exact d_get1 Z I2 g ry λw' s3 I3 O=>⟨_,H2,I3,O,q2⟩
theorem pe_dpop1 (Z:PE X o td)(he:PE X e ty)(m:M1 X o "pop" apos e cpos):PE X (.Call (.Attribute o "pop" apos) [e] [] cpos) (tDPop1 td ty):=by
 intro oq s σ H Q I h;refine Tl m.base m.few m.line Ug UA PySem.F.type_dict_pop (thn (Z oq s σ H _ I h) λu s1 zq=> ?_);erw[zq,x,H1,U,rx,a,ex,d,q1];subst ex;obtain rfl:u=Vf a:=rx;erw[isD_at U d,t1,t2,_];exists t1,t2;rw [m.trees];refine vK rfl (Ub (U5 (thn (he oq s1 σ H1 _ U q1) λiv s2 ⟨y,H2,I2,ry,kvs,k,v,ea,ey,l,q2⟩=>UC ?_)));subst ey;exact d_pop I2 ea ry l (.inl rfl) λw' s3 I3 O=>⟨v,_,I3,O,q2⟩
theorem pe_dpop2 (ho:PE X o td)(he:PE X e ty)(hf:PE X f tx)(m:M2 X o "pop" apos e f cpos):PE X (.Call (.Attribute o "pop" apos) [e,f] [] cpos) (tDPop2 td ty tx):=by
 intro oq s σ H Q I h;refine Tl m.base m.few m.line Ug UA PySem.F.type_dict_pop (thn (ho oq s σ H _ I h) λu s1 zq=> ?_);erw[zq,x,H1,Z,rx,a,ex,d,q1];subst ex;obtain rfl:u=Vf a:=rx;erw[isD_at Z d,t1,t2,_];exists t1,t2;rw [m.trees];refine vK rfl (Ub (U5 (thn (he oq s1 σ H1 _ Z q1) λiv s2 ⟨y,H2,I2,ry,q2⟩=>
  U5 (thn (hf oq s2 σ H2 _ I2 q2) λfv s3 ⟨z,H3,I3,rz,kvs,k,ea,ey,q3,q4⟩=>UC ?_))))
 subst ey;cases l:valV kvs k with
 |some v=>exact d_pop I3 ea ry l (.inr [fv:1]) λw' s4 O U=>⟨v,_,O,U,q3 v l⟩
 |none=>exact d_popD I3 ea ry l λs4 O=>⟨z,H3,O,rz,q4 l⟩
end
end L2
namespace Att
open PySem PySem.W PySem.Calls PyProof.Rows
variable {h:o8}
theorem ZH {P:Hj}:∀(ns:oj Int) (vs:oj o6),WellAll P h vs (ns.map WData.int)->Gf vs ns:=by
 intro ns
 induction ns with
 |nil=>
  intro vs w;rw [Uf] at w;cases w;exact .nil
 |cons n ns O=>
  intro vs w;rw [ui] at w;cases w with
  |cons a b=>
   cases a;exact .cons _ _ (O _ b)
theorem script_of {l:OpenLaw}{n:Nat}(hn:l.most=u_ n){P:Hj}{h:o8}{args:oj WData}{O:oj o6}
  (U:l.row.toRowW.claim.pre args=v_) (ac:WellAll P h O args):
  ∃a vs ns,O= [Vf a]/\args= [WData.list (ns.map WData.int)]/\h.get? a=u_ {cls:= .type "list",data:= .seq vs.toArray}/\Gf vs ns/\ns.length<=n:=by
 have ad:WShape.hasAll [] args [.list .int]=true:=(pre_splitW U).1;have hc:l.pre.holds [] {args:=args}=true:=(pre_splitW U).2;erw[hasAllW_cons ad,d,r,rfl,h1,h2];obtain rfl:=hasAllW_nil h2;erw[hasW_list h1,xs,rfl,h3];erw[items_int h3,ns,rfl];have Z:ns.length<=n:=by
  unfold OpenLaw.pre at hc;have h4:(WTm.not (.lt (.lit (.int (n:Int))) (.len (.arg 0)))).holds [] {args:= [.list (ns.map .int)]}=true:=by
   have h4:=(holds_andW hc).1;rwa [hn] at h4
  have h5:=condW_of h4 (w_not (w_lt w_lit (w_len_list (w_arg rfl))));rw [uc] at h5;refine Nat.le_of_not_lt λq=> ?_;have q':(n:Int)<((ns.length:Nat):Int):=by omega
  first
   |(rw [uf q'] at h5;exact absurd h5 ())
   |(simp at h5;omega)
 cases ac with
 |cons w1 w2=>
  cases w2;cases w1 with
  |list ho aa=>exact⟨_,_,ns,1,1,ho,ZH ns _ aa,Z⟩
theorem post_true (l:OpenLaw)(args:oj WData):l.row.toRowW.claim.post args (.bool v_) args=true:=
 postW_of (r:=l.row.toRowW) (X:=(v_==v_))
  (show WShape.has [] (.bool v_) .bool=v_ by first|rfl|decide|simp [WShape.has,WShape.arms,WShape.armsAll])
  (show(WTm.eq .res (.lit (.bool v_))).value [] {args:=args,res:=u_ (.bool v_),after:=args}=u_ (.bool (v_==v_)) from w_eq_bool (w_res rfl) w_lit) rfl
theorem attach_call {l:OpenLaw}{n:Nat}{q:o9}{O:oj Str}{XP:(Str->om o6)->o8->Prop}{YP:og->o8->Prop}{d:DefRec}
  (hn:l.most=u_ n) (ad:d.params.defaults= [])
  (call:∀(w:og) (s₀ U:o7) (mg mb:Str->om o6) (fa:o3) (o:Obj) (pm cd doc:o6) (a:o3) (vs:oj o6) (ns:oj Int),
   Ground q O [] XP w s₀ mg mb U.heap->YP w U.heap->
   U.heap.get? fa=u_ o->o.data= .func (docDef d.name d.params d.body d.scope pm cd doc)->U.heap.CodeRec cd d.name->mg d.name=u_ (.ref fa)->
   U.heap.get? a=u_ {cls:= .type "list",data:= .seq vs.toArray}->Gf vs ns->ns.length<=n->U.gens= #[]->
   VJ (Vq l.prog w) G6 (.call (.ref fa) [[.ref a]:[]]) (λr s'=>r= .ok (.ret (.bool v_))/\OldK U.heap s'.heap/\s'.os=U.os/\VO s'.gens) U):
  WalkO q O XP YP l.row.toRowW d [] (λf vs=>PySem.call f vs):=by
 intro w s₀ U mg mb G Y fa o pm cd doc dV kV ho hd ae hD af hg args ag as hpre hlay hrd hwl hlo;obtain rfl:dV= .none:=Dflts.none hD ad;obtain rfl:kV= .none:=Dflts.noKw hD;erw[script_of hn hpre hwl,a,vs,ns,rfl,rfl,aa,Z,ac];refine enter_call (HJ (call w s₀ U mg mb fa o pm cd doc a vs ns G Y ho (fd_plain hd) ae af aa Z ac hg) λr s' hq=> ?_);erw[hq,rfl,h2,h3,h4];exact⟨.inl ⟨.bool v_,.bool v_,[],1,λ_=>rfl,.bool v_,post_true l _,λ_=>[tI:λ_ hm=>(nomatch hm)]⟩,h2,h3,h4⟩
end Att
namespace L2
open PySem PySem.Spec PyProof.Rows
theorem vals_ints:∀{vs:oj o6}{ns:oj Int},Gf vs ns->Vals (ns.map V.int) vs
 |_,_,.nil=> .nil
 |_,_,.cons n t h=> .cons [t:1] (vals_ints h)
def Only (H:Hp):Prop:=∀b,H b=U_∨∃o xs,H b=u_ (.frz o (.lst xs))
theorem law_call {P:o9}{w:og}{K:o0}{mg mb:Str->om o6}{CX:CXT}{k:Nat}{fa a:o3}{fd:Vd}{x:Str}{sp:Sp}{O:o7}{vs:oj o6}{ns:oj Int}
  (KX:K.In O.heap) (ae:O.heap.Ns Vv mg) (Z:O.heap.Ns T1 mb) (am:∀x:Str,x≠"__name__"->mb x=Gi x) (af:O.heap.NoLimit) (hg:O.gens= #[])
  (ha:O.heap.get? a=u_ {cls:= .type "list",data:= .seq vs.toArray}) (hi:Gf vs ns) (hl:ns.length<=Vb) (hr:Room k G6)
  (F:∀base:o8,K.In base->base.Ns Vv mg->FnOk P w K mg base CX k fa fd [x] sp) (ad:∀(s:o7) (u:o6),Gn s fd [[u]:[]] [(x,u)])
  (ag:fd.scope.names.lookup x=u_ .local) (ao:∀H:Hp,Only H->SqL K H a (ns.map V.int)->sp [.ref a] H (λv _=>v= .bl v_) λ_ _ _=>False)
  (ap:∀H e s',CX [] H O (λ_ _ _=>False) e s'->False):
  VJ (Vq P w) G6 (.call (.ref fa) [[.ref a]:[]]) (λr s'=>r= .ok (.ret (.bool v_))/\OldK O.heap s'.heap/\s'.os=O.os/\VO s'.gens) O:=by
 have rv:=vals_ints hi;have ah:=hi.length;have ac:∀H:Hp,Only H->SqL K H a (ns.map V.int)->HOk P w H O.heap->(∀b,H b≠U_->b=a)->(H a≠U_->K.lookup a=U_)->
   VJ (Vq P w) G6 (.call (.ref fa) [[.ref a]:[]]) (λr s'=>r= .ok (.ret (.bool v_))/\OldK O.heap s'.heap/\s'.os=O.os/\VO s'.gens) O:=by
  intro H hO hS hok hA hK;have U:∀{b:o3}{o:Obj},O.heap.get? b=u_ o->H b=U_->(hidT O.heap H).get? b=u_ o:=λe n=>hidT_get e n;have aq:∀{b:o3}{o:Obj}{es:Array GF}{ep:Nat},O.heap.get? b=u_ o->o.data= .dict es ep->H b=none:=λ{b o es ep} e d=>by
   cases q:H b with
   |none=>rfl
   |some u=>
    have e':b=a:=hA b (by rw [q];simp)
    subst e';rw [ha] at e;cases e;have d':HS vs.toArray _=Data.dict es ep:=d;cases d'
  have aa:∀{b:o3}{m:Str->om o6},O.heap.Ns b m->(hidT O.heap H).Ns b m:=λ{b m} ⟨o,es,ep,e,d,r⟩=>⟨o,es,ep,U e (aq e d),d,r⟩;have ak:K.In (hidT O.heap H):=λb o e=>U (KX b o e) (by
   cases q:H b with
   |none=>rfl
   |some u=>
    have e':b=a:=hA b (by rw [q];simp)
    subst e';rw [hK (by rw [q];simp)] at e;cases e)
  have hM:Mod K mg (hidT O.heap H):=⟨ak,aa ae,[mb:aa Z:am],let⟨mc,h1,h2⟩:=af;[mc:aa h1:h2]⟩;have e0:Env0 P w K mg (hidT O.heap H) G6 [] O H:=⟨1,hM,λb o e=>of_hidT e,rN (hidT_size _ _),trivial,λb Z=>absurd (show b∈([]:oj o3) from Z) (by simp),hok,.of_eq hg⟩
  refine HJ ((F _ ak (aa ae)).run G6 [] O H [[.ref a]:[]] [.ref a] [.ref a] _ _ hr e0 (ad O (.ref a)) (.cons rfl .nil) (ao H hO hS) (.inr [_:0:ag])) λr s' h=> ?_;cases r with
  |error e=>exact(ap H e s' h).elim
  |ok fl=>
   cases fl with
   |next=>exact VA h
   |brk=>exact VA h
   |cont=>exact VA h
   |ret u=>
    erw[h,v,H',os,bare,htk,un,al,r',q];have q':v= .bl true:=q;subst q';obtain rfl:u=Hv true:=r';refine⟨1,OldK.of_keep λb o e=> ?_,os,bare⟩;cases q:H b with
    |none=>exact un.keep b o e q (by intro z;exact absurd (show b∈([]:oj o3) from z) (by simp)) (by simp)
    |some u=>
     rcases hO b with z|⟨ob,xs,z⟩
     ·rw [q] at z;cases z
     ·have z2:=un.frzs b ob _ z;erw[hok b _ z,e1,_];erw[al b _ z2,e2,_];rw [e] at e1;cases e1;exact e2
 cases hk:K.lookup a with
 |some o=>
  have e:=KX a o hk;rw [ha] at e;cases e;refine ac (λ_=>U_) (λ_=> .inl rfl) (.inr ⟨_,vs.toArray,_,hk,1,1,1,by rwa [uz,ah],by simpa using rv⟩) (λb u z=>by have z':(U_:om HO)=u_ u:=z;cases z') (λb z=>absurd rfl z) λz=>absurd rfl z
 |none=>
  refine ac (λb=>if b=a then u_ (.frz {cls:= .type "list",data:= .seq vs.toArray} (.lst (ns.map V.int))) else U_) (λb=> ?_) (.inl (.inr [{cls:= .type "list",data:= .seq vs.toArray}:Aa rfl])) (λb u z=> ?_) (λb z=> ?_) λ_=>hk
  ·by_cases Z:b=a
   ·exact .inr [_:_:Aa Z]
   ·exact .inl (A2 Z)
  ·by_cases Z:b=a
   ·have z':=(Aa Z).symm.trans z;cases z';subst Z;exact⟨ha,by rwa [uc],vs,_,rv,ha⟩
   ·have z':=(A2 Z).symm.trans z;cases z'
  ·by_cases Z:b=a
   ·exact Z
   ·exact absurd (A2 Z) z
abbrev KOf {K:o0}{h:o8}(_:K.In h):o0:=K
theorem walk_of {l:PySem.W.OpenLaw}{n k:Nat}{q:o9}{U:oj Str}{XP:(Str->om o6)->o8->Prop}{YP:og->o8->Prop}{d:DefRec}{K:Hj->o0}{CX:og->CXT}{sp:og->Sp}{x:Str}
  (hn:l.most=u_ n) (ad:n<=Vb) (ae:d.params.defaults= []) (hr:Room k G6)
  (hY:∀(w:og) (h:o8),YP w h->(K w.params).In h)
  (F:∀(w:og) (mg:Str->om o6) (fa:o3) (h:o8),(K w.params).In h->h.Ns Vv mg->mg d.name=u_ (.ref fa)->
   ∃fd:Vd,(∀(s:o7) (u:o6),Gn s fd [[u]:[]] [(x,u)])/\fd.scope.names.lookup x=u_ .local/\
    ∀base:o8,(K w.params).In base->base.Ns Vv mg->FnOk l.prog w (K w.params) mg base (CX w) k fa fd [x] (sp w))
  (af:∀(w:og) (H:Hp) (a:o3) (ns:oj Int),ns.length<=n->Only H->SqL (K w.params) H a (ns.map V.int)->sp w [.ref a] H (λv _=>v= .bl v_) λ_ _ _=>False)
  (ag:∀(w:og) (H:Hp) (s:o7) (e:o6) (s':o7),CX w [] H s (λ_ _ _=>False) e s'->False):
  PySem.W.WalkO q U XP YP l.row.toRowW d [] (λf vs=>PySem.call f vs):=by
 refine Att.attach_call hn ae λw s₀ s₁ mg mb fa o pm cd doc a vs ns G Y ho hd ak ah aa Z O hg=> ?_;have KX:=hY w _ Y;erw[F w mg fa _ KX G.T.g ah,fd,hb,ac,hF];exact law_call KX G.T.g G.T.b G.T.builtins G.T.nolimit hg aa Z (uM O ad) hr hF hb ac (λH hO hS=>af w H a ns O hO hS) λH e s'=>ag w H s₁ e s'
theorem walk_ofK {l:PySem.W.OpenLaw}{n k:Nat}{q:o9}{O:oj Str}{XP:(Str->om o6)->o8->Prop}{YP:og->o8->Prop}{d:DefRec}{K:Hj->o0}{CX:CXT}{sp:o0->Sp}{x:Str}
  (hn:l.most=u_ n) (U:n<=Vb) (Z:d.params.defaults= []) (hr:Room k G6)
  (hY:∀(w:og) (h:o8),YP w h->(K w.params).In h)
  (F:∀(w:og) (mg:Str->om o6) (fa:o3) (h:o8),(K w.params).In h->h.Ns Vv mg->mg d.name=u_ (.ref fa)->
   ∃fd:Vd,(∀(s:o7) (u:o6),Gn s fd [[u]:[]] [(x,u)])/\fd.scope.names.lookup x=u_ .local/\
    ∀base:o8,(K w.params).In base->base.Ns Vv mg->FnOk l.prog w (K w.params) mg base CX k fa fd [x] (sp (K w.params)))
  (aa:∀(K:o0) (H:Hp) (a:o3) (ns:oj Int),ns.length<=n->Only H->SqL K H a (ns.map V.int)->sp K [.ref a] H (λv _=>v= .bl v_) λ_ _ _=>False)
  (ac:∀(H:Hp) (s:o7) (e:o6) (s':o7),CX [] H s (λ_ _ _=>False) e s'->False):
  PySem.W.WalkO q O XP YP l.row.toRowW d [] (λf vs=>PySem.call f vs):=
 walk_of (K:=K) (CX:=λ_=>CX) (sp:=λw=>sp (K w.params)) hn U Z hr hY F (λw H a ns h1 h2 h3=>aa (K w.params) H a ns h1 h2 h3) λ_ H s e s'=>ac H s e s'
def Qj (s:Stmt)(j:Nat):Stmt:=match s with
 | .ClassDef _ _ _ body _ _ _ _ _ _ _=>body.getD j (.Pass ⟨(0),(0),(0),(0)⟩)
 |_=> .Pass ⟨(0),(0),(0),(0)⟩
def Yr (s:Stmt):Arguments:=match s with
 | .FunctionDef _ a _ _ _ _ _ _ _ _=>a
 |_=>{posonlyargs:= [],args:= [],vararg:=U_,kwonlyargs:= [],kw_defaults:= [],kwarg:=U_,defaults:= []}
def yU (s:Stmt):oj Stmt:=match s with
 | .FunctionDef _ _ b _ _ _ _ _ _ _=>b
 |_=> []
def qj (s:Stmt):Scope:=match s with
 | .FunctionDef _ _ _ _ _ _ sc _ _ _=>sc
 |_=>{kind:= .function,names:= [],isGenerator:=V9,isCoroutine:=V9}
abbrev CX0:CXT:=λ_ _ _ _ _ _=>False
abbrev E0:XK:=λ_ _ _=>False
variable {X:Cx}
theorem qA:XH CX0 X E0:=λ_ _ _ _ _ _ _ h=>h.elim
structure Fun (K:o0)(x qual:Str)(st:Stmt)(f:o3)(fd:Vd):Prop where
 ex:∃(oc:o6) (od:om o3) (kV doc pm:o6) (an:om o3) (cdv ct:o6) (osl:Array (om o6)),
  fd=PySem.W.fnOf x qual (Yr st) (yU st) (qj st) .none kV doc pm an cdv ct/\K.lookup f=u_ ⟨oc,od,.func fd,osl⟩/\PySem.W.codeIn K cdv qual=v_
 kp:PySem.W.keepIn K (.ref f)=v_
section
variable {P:o9}{w:og}{K:o0}{mg:Str->om o6}{base:o8}
theorem Fun.ok {x qual:Str}{st:Stmt}{f:o3}{fd:Vd}{N ps:oj Str}{k:Nat}{sp:Sp}(F:Fun K x qual st f fd)(S:qu N ps (qj st))(len:∀vs H Q E,sp vs H Q E->vs.length=ps.length)
  (O:∀(cdv:o6) (A:oh) (outer:oj Env) (s:o7) (H:Hp) (vs:oj V) (Q:VK) (E:XK),Room k (A.deeper (Vg qual (qj st) s.heap.objs.size f cdv))->sp vs H Q E->
   ∃t,PSs (cxOf CX0 P w K mg base N qual (qj st) f cdv A outer s H E).nox (yU st) t/\t {nx:=λ_ H'=>Q .non H',rt:=Q} (KP N vs) H):FnOk P w K mg base CX0 (k+1) f fd ps sp:=by
 erw[F.ex,oc,od,kV,doc,pm,an,cdv,ct,osl,rfl,lk,U];refine fn_of lk U S len λA outer s H vs Q E hr Z=> ?_;erw[O cdv A outer s H vs Q E hr Z,t,h,q];exact[t:h.nox:q]
theorem Fun.binds {x qual:Str}{st:Stmt}{f:o3}{fd:Vd}{ps:oj Str}(F:Fun K x qual st f fd)
  (h:∀(kV doc pm:o6) (an:om o3) (cdv ct:o6) (us:oj o6),us.length=ps.length->gZ (PySem.W.fnOf x qual (Yr st) (yU st) (qj st) .none kV doc pm an cdv ct) [us:[]]=pure (ps.zip us)):zD K fd ps []:=by
 erw[F.ex,oc,od,kV,doc,pm,an,cdv,ct,osl,rfl,lk,O];exact .all (h kV doc pm an cdv ct)
theorem fun_mk {x qual:Str}{st:Stmt}{f:o3}{oc:o6}{od an:om o3}{osl:Array (om o6)}{kV doc pm cdv ct:o6}(l:K.lookup f=u_ ⟨oc,od,.func (PySem.W.fnOf x qual (Yr st) (yU st) (qj st) .none kV doc pm an cdv ct),osl⟩)
  (c:PySem.W.codeIn K cdv qual=v_) (k:PySem.W.keepIn K (.ref f)=v_):Fun K x qual st f (PySem.W.fnOf x qual (Yr st) (yU st) (qj st) .none kV doc pm an cdv ct):=[⟨oc,od,kV,doc,pm,an,cdv,ct,osl,1,l,c⟩:k]
end
variable {A:oh}
theorem QW {k:Nat}(O:Room k A):A.units+1<cLine:=U6 (Nat.add_le_add_left (by decide:1<=64) _) O.units
variable {n:Nat}
theorem Xy (h:n<=1000):n<sizeLine:=U6 h ()
section
variable {X:Cx}
theorem pv (i:Nat){x:Str}{pos:Pos}(U:X.N[i]? =u_ x:=by rfl)(Z:Vis X.env.scope x:=by first|exact Gx rfl|exact GE (Gx rfl)|exact GE (GE rfl))(hd:(x==("__debug__":Str))=false:=by decide)
  (O:(x==("__classdict__":Str))=false:=by decide):PE X (.Name x pos) (tVar i):=pe_var U Z hd O
theorem call_lenD:Y6 X (.builtin "len") (λxs H Q=>∃a kvs,xs= [V.ref a]/\H a=u_ (.dK kvs)/\Q (.int kvs.length) H):=by
 intro oq s σ H xs us Q I r h;erw[h,a,kvs,rfl,ha,q];erw[JR r,u,rfl,ru];cases ru;exact d_len I (.inl ha) λt s' O=>⟨.int kvs.length,H,O,[t:1],q⟩
end
theorem iteF {A B:Prop}(h:B):if V9=v_ then A else B:=by
 rw [A2 u5];exact h
theorem iteT {A B:Prop}(h:A):if v_=v_ then A else B:=by
 rw [Aa rfl];exact h
theorem ite2 {c A B:Prop}[Decidable c](h1:c->A)(h2:¬c->B):if c then A else B:=by
 by_cases h:c
 ·rw [Aa h];exact h1 h
 ·rw [A2 h];exact h2 h
def Same (H H':Hp):Prop:=∀b o,H b=u_ o->H' b=u_ o
theorem Same.refl (H:Hp):Same H H:=λ_ _ h=>h
variable {H H1 H2:Hp}
theorem Same.trans (a:Same H H1)(b:Same H1 H2):Same H H2:=λc o h=>b c o (a c o h)
variable {H':Hp}
theorem Same.free (e:Same H H'){l:o3}(h:H' l=Option.none):H l=Option.none:=by
 cases q:H l with
 |none=>rfl
 |some o=>
  rw [e l o q] at h;cases h
section
variable {κ:Type}[DecidableEq κ]
variable {kvs:oj (κ×V)}{v:V}
theorem valV_in {k:κ}(h:valV kvs k=u_ v):k∈kvs.map (·.1):=by
 have q:(kvs.any λkv=>decide (kv.1=k))=true:=by
  rw [JJ,h]
  all_goals rfl
 erw[List.any_eq_true.mp q,p,O,e];exact Ag.mpr [p:O:uA e]
theorem dropK_pos {p:κ×V}{r:oj (κ×V)}{k:κ}(e:p.1=k):jm (p::r) k=jm r k:=by
 unfold jm;rw [vz,A2 (by simp [e])]
theorem dropK_neg {p:κ×V}{r:oj (κ×V)}{k:κ}(e:¬p.1=k):jm (p::r) k=p::jm r k:=by
 unfold jm;rw [vz,Aa (by simp [e])]
end
end L2
namespace L2
open PySem
inductive D where
 |non|bl (b:Bool)|int (i:Int)|str (z:Str)|lst|dct|tup (xs:List D)
def QD (c:Nat):Bool:=decide (32<=c)&&decide (c<=126)&&decide (c≠37)
def Qy (z:Str):Bool:=decide (z.length<=300)&&z.cps.toList.all QD
mutual
def good:D->Bool
 | .str z=>Qy z
 | .tup xs=>decide (xs.length<=40)&&goodL xs
 |_=>V9
def goodL:oj D->Bool
 | []=>v_
 |x::r=>good x&&goodL r
end
mutual
def sz:D->Nat
 | .str z=>z.length+1
 | .tup xs=>1+szL xs
 |_=>0
def szL:oj D->Nat
 | []=>0
 |x::r=>sz x+szL r
end
mutual
def dp:D->Nat
 | .str _=>1
 | .tup xs=>1+dpL xs
 |_=>0
def dpL:oj D->Nat
 | []=>0
 |x::r=>max (dp x) (dpL r)
end
mutual
def nd:D->Nat
 | .tup xs=>1+ndL xs
 |_=>1
def ndL:oj D->Nat
 | []=>0
 |x::r=>nd x+ndL r
end
def isT (d:D):Bool:=good d&&decide (sz d<=600)&&decide (dp d<=12)
theorem ze:∀(xs ys:oj D),szL (xs++ys)=szL xs+szL ys
 | [],ys=>by simp [szL]
 |x::r,ys=>by simp![Ui,szL,ze r ys];omega
theorem X6:∀(xs ys:oj D),ndL (xs++ys)=ndL xs+ndL ys
 | [],ys=>by simp [ndL]
 |x::r,ys=>by simp![Ui,ndL,X6 r ys];omega
theorem zV {k:Nat}:∀(xs:oj D),dpL xs<=k↔∀x∈xs,dp x<=k
 | []=>by simp [dpL]
 |x::r=>by
  have U:=zV (k:=k) r;have e:dpL (x::r)=max (dp x) (dpL r):=by simp![dpL]
  rw [e];constructor
  ·intro h y O;rcases Ac.mp O with rfl|O
   ·omega
   ·exact U.mp () y O
  ·intro h;have h1:=h x ug;have h2:=U.mpr λy O=>h y (ud _ O);omega
theorem dp_pos {d:D}(h:good d=v_):1<=dp d:=by
 cases d<;>simp_all [good,dp]
def wOk (w:oj (D×Nat)):Bool:=w.all λp=>good p.1&&decide (p.2+dp p.1<=13)
def wSz (w:oj (D×Nat)):Nat:=szL (w.map (·.1))
def G (w:oj (D×Nat))(n:Nat):Bool:=wOk w&&decide (n+wSz w<=600)
theorem G_start (d:D):G [(d,1)] 0=isT d:=by
 simp![G,wOk,wSz,isT,vy,rJ,ui,Uf,szL,vU,GW,rh];have e:decide (1+dp d<=13)=decide (dp d<=12):=by
  rw [uZ];omega
 rw [e];cases good d<;>cases decide (sz d<=600)<;>cases decide (dp d<=12)<;>rfl
variable {n:Nat}
theorem G_nil (h:n<=600):G [] n=true:=by simp [G,wOk,wSz,szL,h]
theorem G_snoc (w:oj (D×Nat))(d:D)(k n:Nat):G (w++ [(d,k)]) n=(wOk w&&(good d&&decide (k+dp d<=13))&&decide (n+(wSz w+sz d)<=600)):=by
 simp![G,wOk,wSz,UT,vy,rJ,vU,uu,ui,Uf,ze,szL,rh]
 rfl
theorem G_bad {w:oj (D×Nat)}{d:D}{k:Nat}(h:good d=V9):G (w++ [(d,k)]) n=false:=by
 rw [G_snoc,h];simp
theorem G_deep {w:oj (D×Nat)}{d:D}{k:Nat}(h:12<k):G (w++ [(d,k)]) n=false:=by
 rw [G_snoc];cases O:good d with
 |false=>simp
 |true=>
  have:=dp_pos O;have e:decide (k+dp d<=13)=false:=uh ()
  rw [e];simp
theorem G_big {w:oj (D×Nat)}{d:D}{k:Nat}(h:600<n+sz d):G (w++ [(d,k)]) n=false:=by
 rw [G_snoc];have e:decide (n+(wSz w+sz d)<=600)=false:=uh ()
 rw [e];simp
theorem G_big1 {w:oj (D×Nat)}{xs:oj D}{k:Nat}(h:600<n+1):G (w++ [(.tup xs,k)]) n=false:=G_big (by simp![sz];omega)
theorem wOk_map (xs:oj D)(k:Nat):wOk (xs.map λx=>(x,k+1))=(goodL xs&&xs.all λx=>decide (k+1+dp x<=13)):=by
 induction xs with
 |nil=>rfl
 |cons x r O=>
  simp![ui,wOk,vy,goodL] at O⊢;rw [O];cases good x<;>cases decide (k+1+dp x<=13)<;>cases goodL r<;>simp
theorem wSz_map (xs:oj D)(k:Nat):wSz (xs.map λx=>(x,k+1))=szL xs:=by
 unfold wSz;rw [uL]
 congr 1
 induction xs with
 |nil=>rfl
 |cons x r O=>simp![ui,O];rfl
theorem G_tup {w:oj (D×Nat)}{xs:oj D}{k:Nat}(U:xs.length<=40)(hk:k<=12):G (w++ [(.tup xs,k)]) n=G (w++xs.map λx=>(x,k+1)) (n+1):=by
 rw [G_snoc];unfold G;have Z:wOk (w++xs.map λx=>(x,k+1))=(wOk w&&wOk (xs.map λx=>(x,k+1))):=by unfold wOk;rw [UT]
 have e2:wSz (w++xs.map λx=>(x,k+1))=wSz w+szL xs:=by
  have:=wSz_map xs k;unfold wSz at this⊢;rw [uu,ze,this]
 have e3:decide (k+dp (.tup xs)<=13)=xs.all λx=>decide (k+1+dp x<=13):=by
  have q:=zV (k:=12-k) xs;have e0:dp (.tup xs)=1+dpL xs:=by simp![dp]
  rw [e0,vR];constructor
  ·intro h;have h:=uA h;refine List.all_eq_true.mpr λx O=>uf ?_;have h2:=q.mp () x O
   omega
  ·intro h;refine uf ?_;have h2:=q.mpr λx O=>by
    have h3:=uA (List.all_eq_true.mp h x O);omega
   omega
 rw [Z,e2,e3,wOk_map];have e4:good (.tup xs)=goodL xs:=by simp![good,uf U,Tv]
 have e5:decide (n+(wSz w+sz (.tup xs))<=600)=decide (n+1+(wSz w+szL xs)<=600):=by
  rw [uZ];simp![sz];omega
 rw [e4,e5]
variable {z:Str}
theorem G_str {w:oj (D×Nat)}{k:Nat}(O:Qy z=v_)(hk:k<=12):G (w++ [(.str z,k)]) n=G w (n+(1+z.length)):=by
 rw [G_snoc];unfold G;have U:good (.str z)=true:=by simp![good,O]
 have Z:decide (k+dp (.str z)<=13)=true:=uf (by simp![dp];omega)
 have e5:decide (n+(wSz w+sz (.str z))<=600)=decide (n+(1+z.length)+wSz w<=600):=by
  rw [uZ];simp![sz];omega
 rw [U,Z,e5];simp
end L2
namespace AwZ
open PySem PyProof.Rows
open PySem.AutoSeq1 (wpAny_loadPart')
section
variable {prog:o9}{w:og}{A:oh}{E:o6->o7->Prop}{s:o7}
theorem tdraw {j t:o3}{i:Nat}{its:Array o6}{x:o6}{Q:o6->o7->Prop}(U:s.heap.IsTupleIter j t i)(gt:s.heap.IsTuple t its)(gx:its[i]? =u_ x)
  (q:∀h2,h2.IsTupleIter j t (i+1)->GO j s.heap h2->Q x {s with heap:=h2}):Va #[w,w] A (Gk (.ref j)) Q E s:=by
 erw[id U,u,O,cu,du];erw[gt,ut,Z,_,nt,aa];unfold Gk;refine Ab (vG (name:=GC "__next__") U.typeIs U1
  (U3 U1 U.typeIs F.entry_tuple_iterator_next ?_ (F.args_tuple_iterator_next_1 _)))
 show Va _ _ (gX (.ref j) 0>>=_) _ _ s;refine Ab (vF O du (x:= .ref t) rfl ?_);show Va _ _ (if(Vf t==VW)=v_ then _ else _) _ _ s
 rw [A2 (show¬(Vf t==VW)=v_ from u5)]
 show Va _ _ (gX (.ref j) 1>>=_) _ _ s;refine Ab (vF O du (x:= .int i 0) rfl ?_);show Va _ _ (tL (.ref t)>>=_) _ _ s;refine Ab (Uj Z aa ?_);simp![tR,gx];refine Ab (Rb O du (by simp) (uE [x:1:uE (q _ ?_ (TK ..))]))
 exact⟨_,T7 _ O (Obj.isFreed_of_fields (Fw du _)),(Obj.cls_mapFields ..).trans cu,by rw [Fw du];simp [V_]⟩
theorem tdraw_end {j t:o3}{i:Nat}{its:Array o6}{Q:o6->o7->Prop}(hh:A.handled=U_)(O:s.heap.IsTupleIter j t i)(gt:s.heap.IsTuple t its)(gx:its[i]? =U_)
  (q:∀h2 e,Heap.ExtBut j s.heap h2->(∃u,h2.get? e=u_ u/\u.cls= .type "StopIteration")->E (.ref e) {s with heap:=h2}):Va #[w,w] A (Gk (.ref j)) Q E s:=by
 erw[id O,u,U,cu,du];erw[gt,ut,Z,_,nt,aa];unfold Gk;refine Ab (vG (name:=GC "__next__") O.typeIs U1
  (U3 U1 O.typeIs F.entry_tuple_iterator_next ?_ (F.args_tuple_iterator_next_1 _)))
 show Va _ _ (gX (.ref j) 0>>=_) _ _ s;refine Ab (vF U du (x:= .ref t) rfl ?_);show Va _ _ (if(Vf t==VW)=v_ then _ else _) _ _ s
 rw [A2 (show¬(Vf t==VW)=v_ from u5)]
 show Va _ _ (gX (.ref j) 1>>=_) _ _ s;refine Ab (vF U du (x:= .int i 0) rfl ?_);show Va _ _ (tL (.ref t)>>=_) _ _ s;refine Ab (Uj Z aa ?_);simp![tR,gx];refine Ab (UX (Ab (Rb U du (by simp) ?_)))
 show Va _ _ (newExc (.type "StopIteration") []>>=_) _ _ _;refine Ab ?_;simp![newExc,newTuple];refine Ab (vB ?_ (by size_fits))
 refine Ab (m:=HZ _ _) (FG (a:=VW) (by first|rfl|(simp![HZ];rfl)) ?_)
 refine vB ?_ (by size_fits)
 simp![raiseNew];refine Ab (wpAny_handled ?_)
 first|rw [show A.in1.handled=U_ from hh]|rw [hh]
 refine Ab (uE (r_ ?_));exact q _ _ (((TK ..).extBut.push _).push _) [_:uH _ rfl:1]
structure Apt (z p r i j a b:o3):Prop where
 pz:p≠z
 rz:r≠z
 iz:i≠z
 jz:j≠z
 pr:p≠r
 pi:p≠i
 pj:p≠j
 ri:r≠i
 rj:r≠j
 ij:i≠j
 az:a≠z
 ar:a≠r
 ai:a≠i
 aj:a≠j
 bz:b≠z
 br:b≠r
 bi:b≠i
 bj:b≠j
theorem ziptl {z p r i j a b:o3}{k:Nat}{xs ys:Array o6}{x y u v:o6}{Q:o6->o7->Prop}(D:Apt z p r i j a b)
  (Z:VB s.heap z p r .none) (hp:Vp s.heap p (.ref i) (.ref j)) (hr:Vp s.heap r u v)
  (hi:s.heap.IsTupleIter i a k) (hj:s.heap.IsListIter j b k) (ha:s.heap.IsTuple a xs) (hb:s.heap.IsList b ys) (hx:xs[k]? =u_ x) (hy:ys[k]? =u_ y)
  (q:∀h2,VB h2 z p r (V_ s.heap.objs.size)->Vp h2 r x y->h2.IsTupleIter i a (k+1)->h2.IsListIter j b (k+1)->Vp h2 s.heap.objs.size x y->h2.objs.size=s.heap.objs.size+1->
   (∀c o,c≠z->c≠r->c≠i->c≠j->s.heap.get? c=u_ o->h2.get? c=u_ o)->Q (.ref s.heap.objs.size) {s with heap:=h2}):
  Va #[w,w] A (VS.«zip.__next__» [[.ref z]:[]]) (λfin t=>∃v,fin= .done (.ret v)/\Q v t) E s:=by
 show Va _ _ (gX (.ref z) 2>>=_) _ _ _;refine Ab (vF Z rfl (x:= .bool V9) rfl ?_);show Va _ _ (gX (.ref z) 3>>=_) _ _ _;refine Ab (vF Z rfl (x:= .ref p) rfl ?_);refine Ab (Uj hp rfl ?_);show Va _ _ (Hh (.ref z)>>=_) _ _ s;refine Ab ?_;unfold Hh;refine Ab (vF Z rfl (x:= .none) rfl (uE ?_));simp![if_true];refine Ab (UX ?_);refine Ab (vF Z rfl (x:= .ref r) rfl ?_);refine Ab (Uq Z (by simp) λh1 z1 s1=> ?_)
 replace z1:VB h1 z p r .ellipsis:=z1
 refine Ab ?_;simp![TH,T_,Ux,rB];refine Ab (Ab (Tu ?_));show Va _ _ (Gk (.ref i)>>=_) _ _ _;refine Ab (tdraw (hi.extBut s1.extBut D.iz) (ha.extBut s1.extBut D.az) hx λh2 i2 s2=>uE ?_);have r2:Vp h2 r u v:=s2.extBut _ _ D.ri (s1.extBut _ _ D.rz hr);refine Ab (Uj r2 rfl ?_);refine Ab (Ra r2 λh3 r3 U=> ?_)
 replace r3:Vp h3 r x v:=r3
 refine Ab (Rj (uE ?_));refine Ab (Ab (Tu ?_));show Va _ _ (Gk (.ref j)>>=_) _ _ _;refine Ab (wpAny_nextOf_list_item (((hj.extBut s1.extBut D.jz).extBut s2.extBut D.ij.symm).extBut U.extBut D.rj.symm)
  (((hb.extBut s1.extBut D.bz).extBut s2.extBut D.bi).extBut U.extBut D.br) hy λh4 j4 s4=>uE ?_)
 have r4:Vp h4 r x v:=s4.extBut _ _ D.rj r3;refine Ab (Uj r4 rfl ?_);refine Ab (Ra r4 λh5 r5 s5=> ?_)
 replace r5:Vp h5 r x y:=r5
 refine Ab (Rj (uE (uE ?_)));refine Ab (Uj r5 rfl ?_);refine Ab (wpAny_newTuple ?_);have sz:h5.objs.size=s.heap.objs.size:=by rw [s5.1,s4.1,U.1,s2.1,s1.1]
 have z5:VB h5 z p r .ellipsis:=s5.extBut _ _ D.rz.symm (s4.extBut _ _ D.jz.symm (U.extBut _ _ D.rz.symm (s2.extBut _ _ D.iz.symm z1)));have k5:∀c o,c≠z->c≠r->c≠i->c≠j->s.heap.get? c=u_ o->h5.get? c=u_ o:=λc o O c2 c3 c4 e=>
  s5.extBut _ _ c2 (s4.extBut _ _ c4 (U.extBut _ _ c2 (s2.extBut _ _ c3 (s1.extBut _ _ O e))))
 have i5:h5.IsTupleIter i a (k+1):=((i2.extBut U.extBut D.ri.symm).extBut s4.extBut D.ij).extBut s5.extBut D.ri.symm;have j5:h5.IsListIter j b (k+1):=j4.extBut s5.extBut D.rj.symm;have aa:z<h5.objs.size:=uG z5;show Va _ _ (Fm (.ref z) (.ref h5.objs.size)>>=_) _ _ _;refine Ab ?_;unfold Fm;have z6:VB (h5.push {cls:= .type "tuple",data:= .seq #[x,y]}) z p r .ellipsis:=ue _ z5;refine Ab (Uq z6 (by simp) λh7 z7 s7=> ?_)
 replace z7:VB h7 z p r (V_ h5.objs.size):=z7
 refine Uq z7 (by simp) λh8 z8 s8=> ?_
 replace z8:VB h8 z p r (V_ h5.objs.size):=z8
 have up:∀c o,c≠z->h5.get? c=u_ o->h8.get? c=u_ o:=λc o O e=>s8.extBut _ _ O (s7.extBut _ _ O (ue _ e));have t8:Vp h8 h5.objs.size x y:=s8.extBut _ _ (Uw aa) (s7.extBut _ _ (Uw aa) (uH _ rfl));have n8:h8.objs.size=h5.objs.size+1:=by rw [s8.1,s7.1,vt]
 rw [sz] at z8 t8 n8;refine uE [0:?_];show Q (.ref h5.objs.size) _;rw [sz];exact q h8 z8 (up _ _ D.rz r5) (by erw[i5,o,e,g];exact[o:up _ o D.iz e:g]) (j5.at λo e=>up _ o D.jz e) t8 n8 λc o O c2 c3 c4 e=>up c o O (k5 c o O c2 c3 c4 e)
theorem zip_go {z p r i j a b:o3}{k:Nat}{xs ys:Array o6}{x y u v:o6}{Q:om o6->o7->Prop}(D:Apt z p r i j a b)
  (O:VB s.heap z p r .none) (Z:Vp s.heap p (.ref i) (.ref j)) (hr:Vp s.heap r u v)
  (hi:s.heap.IsTupleIter i a k) (hj:s.heap.IsListIter j b k) (ha:s.heap.IsTuple a xs) (hb:s.heap.IsList b ys) (hx:xs[k]? =u_ x) (hy:ys[k]? =u_ y)
  (q:∀h2,VB h2 z p r (V_ s.heap.objs.size)->Vp h2 r x y->h2.IsTupleIter i a (k+1)->h2.IsListIter j b (k+1)->Vp h2 s.heap.objs.size x y->h2.objs.size=s.heap.objs.size+1->
   (∀c o,c≠z->c≠r->c≠i->c≠j->s.heap.get? c=u_ o->h2.get? c=u_ o)->Q (u_ (.ref s.heap.objs.size)) {s with heap:=h2}):
  Va #[w,w] A (gP (.ref z)) Q E s:=by
 have U:s.TypeIs (.ref z) "zip":=[_:O:1];unfold gP;exact Ab (Hx (vG (name:=GC "__next__") U F.slot_zip_next
  (U3 F.slot_zip_next U F.entry_zip_next (ziptl D O Z hr hi hj ha hb hx hy λh2 b1 b2 b3 b4 b5 b6 b7=>uE (q h2 b1 b2 b3 b4 b5 b6 b7)) (F.args_zip_next_1 _))))
theorem zip_stop {z p r i j a b:o3}{k:Nat}{xs:Array o6}{Q:om o6->o7->Prop}(hh:A.handled=U_)(D:Apt z p r i j a b)
  (O:VB s.heap z p r .none) (hp:Vp s.heap p (.ref i) (.ref j)) (hi:s.heap.IsTupleIter i a k) (ha:s.heap.IsTuple a xs) (hx:xs[k]? =U_)
  (q:∀h2,(∀c o,c≠z->c≠r->c≠i->c≠j->s.heap.get? c=u_ o->h2.get? c=u_ o)->Q U_ {s with heap:=h2}):Va #[w,w] A (gP (.ref z)) Q E s:=by
 have tz:s.TypeIs (.ref z) "zip":=[_:O:1];unfold gP;refine Ab (Hx (vG (name:=GC "__next__") tz F.slot_zip_next
  (U3 F.slot_zip_next tz F.entry_zip_next ?_ (F.args_zip_next_1 _))))
 show Va _ _ (gX (.ref z) 2>>=_) _ _ _;refine Ab (vF O rfl (x:= .bool V9) rfl ?_);show Va _ _ (gX (.ref z) 3>>=_) _ _ _;refine Ab (vF O rfl (x:= .ref p) rfl ?_);refine Ab (Uj hp rfl ?_);show Va _ _ (Hh (.ref z)>>=_) _ _ s;refine Ab ?_;unfold Hh;refine Ab (vF O rfl (x:= .none) rfl (uE ?_));simp![if_true];refine Ab (UX ?_);refine Ab (vF O rfl (x:= .ref r) rfl ?_);refine Ab (Uq O (by simp) λh1 U s1=> ?_)
 replace U:VB h1 z p r .ellipsis:=U
 refine Ab ?_;simp![TH,T_,Ux,rB];refine Ab (Ab (Tu ?_));show Va _ _ (Gk (.ref i)>>=_) _ _ _;refine Ab (tdraw_end hh (hi.extBut s1.extBut D.iz) (ha.extBut s1.extBut D.az) hx λh2 e s2 he=> ?_);erw[he,oe,Z,ce];have z2:VB h2 z p r .ellipsis:=s2 _ _ D.iz.symm U;have ez:e≠z:=λx=>by subst x;rw [z2] at Z;cases Z;simp at ce
 refine Uq z2 (by simp) λh3 _ s3=> ?_
 refine Ab (V4 (T:="StopIteration") (b:=v_) [oe:s3.extBut _ _ ez Z:ce] isSubtype_stop ?_);exact uE (q _ λc o c1 _ c3 _ x=>s3.extBut _ _ c1 (s2 _ _ c3 (s1.extBut _ _ c1 x)))
abbrev q1 (h:o8)(a:o3):o8:=h.push {cls:= .type "tuple_iterator",data:= .fields #[.ref a,.int 0 0]}
abbrev q2 (h:o8)(a b:o3):o8:=(q1 h a).push {cls:= .type "list_iterator",data:= .fields #[.ref b,.int 0 0]}
abbrev q3 (h:o8)(a b:o3):o8:=(q2 h a b).push {cls:= .type "tuple",data:= .seq #[.ref h.objs.size,.ref (q1 h a).objs.size]}
abbrev q4 (h:o8)(a b:o3):o8:=(q3 h a b).push {cls:= .type "tuple",data:= .seq #[.none,.none]}
abbrev q5 (h:o8)(a b:o3):o8:=(q4 h a b).push {cls:= .type "zip",data:= .fields #[.none,.bool V9,.bool V9,.ref (q2 h a b).objs.size,.ref (q3 h a b).objs.size]}
theorem zip_made (a b:o3)(xs ys:Array o6):G9 (VS.«zip.__new__» [[.type "zip",.ref a,.ref b]:[]]) (λ_ R s=>s.heap.IsTuple a xs/\s.heap.IsList b ys/\R (.ok (.ret (.ref (q4 s.heap a b).objs.size))) {s with heap:=q5 s.heap a b}):=
 .of_wp λprog w A R s h=>by
  erw[s,O,g,d,tk,os];erw[h,ha,U,h];have sub:=sub_zip;have h1:Heap.IsTuple (FJ ⟨O,g,d,tk,os⟩) a xs:=ha;have h2:Heap.IsList (FJ ⟨O.push {cls:= .type "tuple_iterator",data:= .fields #[.ref a,.int 0 0]},g,d,tk,os⟩) b ys:=pO U _
  wp_walk using tM h1,UW h2
  exact[0:h]
theorem zip_call {a b:o3}{xs ys:Array o6}{Q:o6->o7->Prop}(ha:s.heap.IsTuple a xs)(hb:s.heap.IsList b ys)
  (h:∀h2,VB h2 (s.heap.objs.size+4) (s.heap.objs.size+2) (s.heap.objs.size+3) .none->Vp h2 (s.heap.objs.size+2) (.ref s.heap.objs.size) (.ref (s.heap.objs.size+1))->
   Vp h2 (s.heap.objs.size+3) .none .none->h2.IsTupleIter s.heap.objs.size a 0->h2.IsListIter (s.heap.objs.size+1) b 0->h2.objs.size=s.heap.objs.size+5->
   (∀c o,s.heap.get? c=u_ o->h2.get? c=u_ o)->Q (.ref (s.heap.objs.size+4)) {s with heap:=h2}):Va #[w,w] A (call (.type "zip") [.ref a,.ref b]) Q E s:=by
 refine callType_new F.called_zip () (F.typeCall_zip_2 _ _) (F.newCall_zip_2 _ _) (λobj=>F.args_object_init_3 obj _ _) F.entry_zip_new (zip_made a b xs ys) [ha:hb:?_]
 have O:(q1 s.heap a).objs.size=s.heap.objs.size+1:=vt ..;have U:(q2 s.heap a b).objs.size=s.heap.objs.size+2:=by rw [vt,O]
 have Z:(q3 s.heap a b).objs.size=s.heap.objs.size+3:=by rw [vt,U]
 have z4:(q4 s.heap a b).objs.size=s.heap.objs.size+4:=by rw [vt,Z]
 have z5:(q5 s.heap a b).objs.size=s.heap.objs.size+5:=by rw [vt,z4]
 have g5:(q5 s.heap a b).get? (q4 s.heap a b).objs.size=u_ _:=uH _ rfl;have g4:(q5 s.heap a b).get? (q3 s.heap a b).objs.size=u_ _:=ue _ (uH _ rfl);have g3:(q5 s.heap a b).get? (q2 s.heap a b).objs.size=u_ _:=ue _ (ue _ (uH _ rfl));have g2:(q5 s.heap a b).get? (q1 s.heap a).objs.size=u_ _:=ue _ (ue _ (ue _ (uH _ rfl)));have g1:(q5 s.heap a b).get? s.heap.objs.size=u_ _:=ue _ (ue _ (ue _ (ue _ (uH _ rfl))));show _/\_;rw [U,Z,z4] at g5;rw [O,U] at g3;rw [Z] at g4;rw [O] at g2;rw [z4];exact[[_:g5:1]:h _ g5 g3 g4 ⟨_,g1,1,1⟩ ⟨_,g2,1,1⟩ z5 λc o x=>ue _ (ue _ (ue _ (ue _ (ue _ x))))]
end
end AwZ
namespace L2
open PySem PySem.Spec PyProof.Rows
def Its (x:Str):It:=⟨λi _=>i<x.cps.size,λi H v H'=>H'=H/\∃c,x.cps[i]? =u_ c/\v= .str ⟨#[c]⟩,λi _=>i=x.cps.size⟩
variable {w:og}{K:o0}{tg:Expr}{x:Str}
theorem turn_str {P:o9}{t:Tok}{it:o3}(ty:String)(O:ty="str_ascii_iterator"∨ty="str_iterator"):
  Turn P w K tg (Its x) [it] it (λi h=>h.IsStrIter it ty x t i) where
 mem:=by simp
 obj:=λi h st b U=>by
  have e:b=it:=by simpa using U
  subst e;erw[st,o,e,c,d];exact⟨o,e,λv z=>by rw [d] at z;cases z⟩
 keep:=λi h h' st k=>by
  erw[st,o,e,r];exact⟨o,k it (by simp) o e,r⟩
 item:=by
  intro X hP hw hK Z i oq s σ H E I hf st hg;subst hP hw hK;obtain⟨f0,f1,f2,f3,f4,f5⟩:=hf it (by simp)
  have W:Walks X.prog X.w X.A it [it] [it] x.cps.size (SignAt x) (λi h=>h.IsStrIter it ty x t i):=by
   rcases O with rfl|rfl
   ·exact Fg (I.ok.hd Z) it x t
   ·exact re (I.ok.hd Z) it x t
  refine vh (n:=1) I.tk (W.item i s _ _ hg st λv h' tk hv aa kk=> ?_);intro htk;erw[hv,c,u,hx,rfl];have I1:Inv X oq σ H {s with heap:=h',toks:=tk}:=I.turned (λb o U e=>kk b o (by simpa using U) e) f0 f1 f3 f4 f5
  erw[id aa,o,e,c',d];refine⟨0,go_of (s:={s with heap:=h',toks:=tk}) e c' d (by rcases O with rfl|rfl<;>decide) ⟨.str ⟨#[c]⟩,H,I1,[u:1],⟨1,c,hx,1⟩,aa,λb U=>(hf b U).1⟩⟩
 done:=by
  intro X hP hw hK Z i oq s σ H E I hf st hg;subst hP hw hK;have ac:i=x.cps.size:=hg;subst ac;obtain⟨f0,f1,f2,f3,f4,f5⟩:=hf it (by simp)
  have W:Walks X.prog X.w X.A it [it] [it] x.cps.size (SignAt x) (λi h=>h.IsStrIter it ty x t i):=by
   rcases O with rfl|rfl
   ·exact Fg (I.ok.hd Z) it x t
   ·exact re (I.ok.hd Z) it x t
  exact vh (n:=1) I.tk (W.done s _ _ st λh' tk kk htk=>⟨1,I.turned (λb o U e=>kk b o (by simpa using U) e) f0 f1 f3 f4 f5⟩)
 self:=λ_ _ _ _ _ st h=>by
  rcases O with rfl|rfl
  ·exact wpAny_pyIter_striter_ascii st h
  ·exact wpAny_pyIter_striter_wide st h
section
variable {X:Cx}{tg:Expr}
inductive IiStr (R:(It->Hp->Prop)) (x:V) (H1:Hp):Prop
 |mk (z:_) (_:x= .str z) (_:R (Its z) H1)
def iStr (tl:TE):TI:=λσ H R=>tl σ H λx H1=>IiStr R x H1
theorem pi_str {l:Expr}{tl:TE}(U:PE X l tl):PI X tg l (iStr tl):=by
 intro oq s σ H R I h;refine thn (U oq s σ H _ I h) λv s1 zq=> ?_;erw[zq,x,H1,O,Z,q1];erw[q1,z,e,q];subst e;erw[Z,t,rfl];have fp:∀(o:Obj),∀b∈ [s1.heap.objs.size],FpOk X oq H1 b:=λo b hb=>by
  have e:b=s1.heap.objs.size:=by simpa using hb
  subst e;exact O.fpOk (uj _) (O.hok.fresh (uj _))
 cases ha:z.cps.all (·<128)
 ·refine wpAny_pyIter_wide ha ?_;exact⟨s1.heap.objs.size,[s1.heap.objs.size],_,_,H1,1,O.kept (t':=s1.toks) λb o e=>ue _ e,turn_str "str_iterator" (.inr rfl),⟨_,uH _ rfl,1,1⟩,fp default,q⟩
 ·refine wpAny_pyIter_ascii ha ?_;exact⟨s1.heap.objs.size,[s1.heap.objs.size],_,_,H1,1,O.kept (t':=s1.toks) λb o e=>ue _ e,turn_str "str_ascii_iterator" (.inl rfl),⟨_,uH _ rfl,1,1⟩,fp default,q⟩
inductive rSlS (x:V) (lo:Option Int) (hi:Option Int) (H:Hp) (Q:VK):Prop
 |mk (z:_) (_:x= .str z) (_:z.length<=Vb) (_:Q (.str (Hl z lo hi)) H)
def tokOf:o6->om (Int×Tok)
 | .int i t=>u_ (i,t)
 |_=>U_
theorem sl_str:SlR X rSlS:=by
 intro oq s σ H x v O U lo hi sl Q I rx hs pl pu h;erw[h,z,rfl,hz,q];erw[rx,t,rfl];exists "str",_,F.slot_str_getitem.lookup,vT _ _ _;have Z:O=partValue (tokOf O)/\lo=(tokOf O).map (·.1):=by cases pl<;>exact[1:1]
 have hu:U=partValue (tokOf U)/\hi=(tokOf U).map (·.1):=by cases pu<;>exact[1:1]
 erw[hs,o,e1,e2,e3];refine vh (n:=1) I.tk ?_;refine wpAny_getItem_str_slice (l:=tokOf O) (u:=tokOf U) (st:=U_) ⟨o,e1,e2,by rw [e3,<-Z.1,<-hu.1];rfl⟩ rfl ?_
 refine post_val_or_str [?_:λt' k=> ?_]
 ·exact uM (FH z _ _) hz
 ·intro htk;exact⟨.str (Hl z lo hi),H,I.tok k,⟨t',by rw [Z.2,hu.2];rfl⟩,q⟩
theorem Qa {K:o0}(U:X.K=K):Y6 X (.builtin "isinstance") (λxs H Q=>∃x T t b,xs= [x,.ty T]/\TyOf K H x t/\PySem.W.kitOne K t (.type T)=u_ b/\Q (.bl b) H):=by
 intro oq s σ H xs us Q I r h;erw[h,x,T,t,b,rfl,ty,e,q];erw[vals2 r,u,Z,rfl,ru,O];cases O;subst U;exact vh (n:=1) I.tk (isinst_ok I ru ty e λtk htk=>⟨.bl b,H,I.tok tk,1,q⟩)
theorem all_range:∀bs:oj Bool,(Vh bs.length).all (λi=>bs.getD i v_)=bs.all id
 | []=>rfl
 |b::r=>by
  rw [um,vZ,vy,UM,vy];have e:(Vh r.length).all ((λi=>(b::r).getD i v_)∘T0)=(Vh r.length).all λi=>r.getD i true:=by
   congr 1
  rw [e,all_range r]
  rfl
theorem wY (hc:X.calm=v_):Y6 X (.builtin "all") (λxs H Q=>∃(p:o3) (bs:oj Bool),xs= [.ref p]/\SqL X.K H p (bs.map V.bl)/\Q (.bl (bs.all id)) H):=by
 intro oq s σ H xs us Q I r h;erw[h,p,bs,rfl,hp,q];erw[JR r,u,rfl,ru];cases ru;erw[I.list hp,its,rv,pl,hz];have aa:p<s.heap.objs.size:=by erw[pl,o,n,e,_];exact uG e
 refine vh (n:=1) I.tk ?_;refine call_all_walk (UW pl.isList ?_);have up:∀b o,s.heap.get? b=u_ o->(s.heap.push {cls:= .type "list_iterator",data:= .fields #[.ref p,.int 0 0]}).get? b=u_ o:=λb o e=>ue _ e;have hl:its.length=bs.length:=by have:=rv.length;simpa using this.symm
 refine⟨s.heap.objs.size,_,_,_,_,_,λi=>bs.getD i v_,1,Walks.list (show X.A.in1.handled=U_ from I.ok.hd hc) s.heap.objs.size p (uS aa) its.toArray,[⟨_,uH _ rfl,1,1⟩:pl.isList.push _],?_,?_⟩
 ·intro i v s' Q' E' hv hQ;have O:its[i]? =u_ v:=by simpa using hv
  have hi:i<its.length:=(Ai.mp O).1;obtain⟨u,e1,e2⟩:=rv.get (i:=i) (x:= .bl (bs[i]'())) (by simp [show i<bs.length by omega])
  rw [O] at e1;cases e1;cases e2;have:bs.getD i v_=bs[i]'():=by simp [VP,show i<bs.length by omega]
  have U:Q' (bs.getD i v_) s':=hQ;rw [this] at U;exact vA U
 ·intro h' tk kk htk;have Z:(Vh its.toArray.size).all (λi=>bs.getD i v_)=bs.all id:=by
   rw [uz,hl];exact all_range bs
  rw [Z];have I1:=I.kept (t':=s.toks) (h':=s.heap.push {cls:= .type "list_iterator",data:= .fields #[.ref p,.int 0 0]}) up;have ac:=I.fpOk (uj _) (I.hok.fresh (uj s.heap.objs.size));erw[ac,f0,f1,f2,f3,f4,f5];exact⟨.bl (bs.all id),H,I1.turned (it:=s.heap.objs.size) (λb o hb e=>kk b o (by simpa using hb) e) f0 f1 f3 f4 f5,1,q⟩
end
section
variable {X:Cx}
theorem k8 {x:Str}{i:Int}{pos:Pos}(O:Gl X x)(hm:∃t,X.mg x=u_ (.int i t))(hd:(x==("__debug__":Str))=V9):PE X (.Name x pos) (tC (.int i)):=by
 erw[hm,t,hm];exact pe_glob O hm [t:1] hd
theorem pe_gS {x z:Str}{pos:Pos}(O:Gl X x)(hm:∃t,X.mg x=u_ (.str z t))(hd:(x==("__debug__":Str))=V9):PE X (.Name x pos) (tC (.str z)):=by
 erw[hm,t,hm];exact pe_glob O hm [t:1] hd
theorem pe_gR {x:Str}{a:o3}{pos:Pos}(O:Gl X x)(hm:X.mg x=u_ (.ref a))(hd:(x==("__debug__":Str))=V9):PE X (.Name x pos) (tC (.ref a)):=pe_glob O hm rfl hd
end
variable {H:Hp}{p:o3}
theorem qf (h:H p=U_)(o:HO):Same H (upd H p o):=λb u q=>by rw [qh (ql q h)];exact q
def Kept (p:o3)(H H':Hp):Prop:=∀b o,H b=u_ o->b≠p->H' b=u_ o
theorem Kept.refl (p:o3)(H:Hp):Kept p H H:=λ_ _ h _=>h
variable {H1 H2:Hp}
theorem Kept.trans (a:Kept p H H1)(b:Kept p H1 H2):Kept p H H2:=λc o h n=>b c o (a c o h n) n
theorem Kept.upd (p:o3)(H:Hp)(o:HO):Kept p H (L2.upd H p o):=λb u h n=>by rw [qh n];exact h
variable {H':Hp}
theorem Kept.same (k:Kept p H1 H')(s:Same H H1)(n:H p=U_):Same H H':=λb o h=>k b o (s b o h) (ql h n)
variable {i:Int}
theorem jD {α:Type}{xs:oj α}(h0:0<=i)(h1:i<xs.length):∃c,atI xs i=u_ c:=by
 obtain⟨n,rfl⟩:∃n:Nat,i=(n:Int):=[i.toNat:()]
 have hn:n<xs.length:=by omega
 exact[xs[n]:Qc (ur hn)]
def clOf (cells:oj (Str×o3)):oj (Str×VG)->oj (Str×o3)->oj (Str×o3)
 | [],cs=>cs
 |(n,k)::r,cs=>clOf cells r (if k== .free then(match cells.lookup n with|some a=>(n,a)::cs|none=>cs) else cs)
theorem kU {cells:oj (Str×o3)}:∀{names:oj (Str×VG)}{cs:oj (Str×o3)},(∀y c,cs.lookup y=u_ c->cells.lookup y=u_ c)->∀y c,(clOf cells names cs).lookup y=u_ c->cells.lookup y=u_ c
 | [],_,h=>h
 |(n,k)::r,cs,h=>by
  unfold clOf;refine kU λy c e=> ?_;split at e
  ·split at e
   ·rename_i a ha
    rw [vk] at e;split at e
    ·rename_i U
     have O:y=n:=beq_iff_eq.mp U;subst O;cases e;exact ha
    ·exact h y c e
   ·exact h y c e
  ·exact h y c e
theorem clOf_keep {cells:oj (Str×o3)}:∀{names:oj (Str×VG)}{cs:oj (Str×o3)}{y:Str},(∃c,cs.lookup y=u_ c)->∃c,(clOf cells names cs).lookup y=u_ c
 | [],_,_,h=>h
 |(n,k)::r,cs,y,h=>by
  unfold clOf;refine clOf_keep ?_;split
  ·split
   ·rw [vk];split
    ·exact⟨0⟩
    ·exact h
   ·exact h
  ·exact h
theorem Kl {cells:oj (Str×o3)}:∀{names:oj (Str×VG)}{cs:oj (Str×o3)}{y:Str},(y,Vs)∈names->(∃c,cells.lookup y=u_ c)->∃c,(clOf cells names cs).lookup y=u_ c
 | [],_,_,h,_=>nomatch h
 |(n,k)::r,cs,y,h,O=>by
  unfold clOf;rcases Ac.mp h with e|h
  ·cases e;refine clOf_keep ?_;erw[O,c,O];rw [Aa (),O]
   exact⟨c,by simp [vk]⟩
  ·exact Kl h O
theorem zy {env:Env}:∀{names:oj (Str×VG)}{cs:oj (Str×o3)},(∀y,(y,Vs)∈names->∃c,env.cells.lookup y=u_ c)->
  (VN names cs λx r=>(do
   if x.2== .free then
    let a<-Hz env x.1
    pure (Gq ((x.1,a)::r))
   else pure (Gq r):Sem (ForInStep (oj (Str×o3)))))=(pure (clOf env.cells names cs):Sem (oj (Str×o3)))
 | [],cs,_=>rfl
 |(n,k)::r,cs,h=>by
  rw [Ux];have Z:∀y,(y,Vs)∈r->∃c,env.cells.lookup y=u_ c:=λy hy=>h y (ud _ hy);unfold clOf;by_cases O:(k==Vs)=v_
  ·have U:k= .free:=by simpa using O
   subst U;erw[h n ug,c,hc];have e:Hz env n=pure c:=by unfold Hz;rw [hc]
   simp![O,if_true,e,hc,Tb];exact zy Z
  ·simp![A2 O,Tb];exact zy Z
theorem W2 {scope:Vt}{env:Env}(h:∀y,(y,Vs)∈scope.names->∃c,env.cells.lookup y=u_ c):hX scope env=pure (clOf env.cells scope.names []):=by
 unfold hX;have q:=zy (cs:= []) h;show(VN scope.names ([]:oj (Str×o3)) (λx r=>(do
   if x.2== .free then
    let a<-Hz env x.1
    pure (Gq ((x.1,a)::r))
   else pure (Gq r):Sem (ForInStep (oj (Str×o3)))))>>=λcs=>pure cs)=_
 rw [q,Tb]
theorem zW {env:Env}(hf:env.scope.kind= .function):∀{names:oj (Str×VG)}{x:Str},names.lookup x=u_ .free->env.kindOf x=u_ .cell->
  (names.map λ(n,k)=>if(k==Vs&&env.scope.kind== .function&&env.kindOf n==u_ .cell) then(n,gQ) else(n,k)).lookup x=u_ .cell
 | [],_,h,_=>by simp at h
 |(n,k)::r,x,h,hc=>by
  have ih:= @zW env hf r x;show Vx x ((if(k==Vs&&env.scope.kind== .function&&env.kindOf n==u_ .cell)=v_ then(n,gQ) else(n,k))::_)=_
  cases O:x==n with
  |true=>
   simp![vk,O] at h;cases h;have Z:x=n:=beq_iff_eq.mp O;subst Z;rw [Aa (by rw [hf,hc];rfl)]
   simp [vk]
  |false=>
   simp![vk,O] at h;by_cases U:(k==Vs&&env.scope.kind== .function&&env.kindOf n==u_ .cell)=v_
   ·rw [Aa U];simp![vk,O];exact ih h hc
   ·rw [A2 U];simp![vk,O];exact ih h hc
theorem Wi {env:Env}:∀{names:oj (Str×VG)}{x:Str},(∀y∈names,y.2≠ .cell)->
  ((names.map λ(n,k)=>if(k==Vs&&env.scope.kind== .function&&env.kindOf n==u_ .cell) then(n,gQ) else(n,k)).lookup x=u_ .cell∨
   (names.map λ(n,k)=>if(k==Vs&&env.scope.kind== .function&&env.kindOf n==u_ .cell) then(n,gQ) else(n,k)).lookup x=u_ .free)->(x,Vs)∈names
 | [],_,_,h=>by simp at h
 |(n,k)::r,x,hn,h=>by
  have ih:= @Wi env r x (λy hy=>hn y (ud _ hy));have g:Vx x ((if(k==Vs&&env.scope.kind== .function&&env.kindOf n==u_ .cell)=v_ then(n,gQ) else(n,k))::(r.map λ(n,k)=>if(k==Vs&&env.scope.kind== .function&&env.kindOf n==u_ .cell) then(n,gQ) else(n,k)))=u_ .cell∨
   Vx x ((if(k==Vs&&env.scope.kind== .function&&env.kindOf n==u_ .cell)=v_ then(n,gQ) else(n,k))::(r.map λ(n,k)=>if(k==Vs&&env.scope.kind== .function&&env.kindOf n==u_ .cell) then(n,gQ) else(n,k)))=u_ .free:=h
  have aa:k≠ .cell:=hn (n,k) ug;by_cases Z:(k==Vs&&env.scope.kind== .function&&env.kindOf n==u_ .cell)=v_
  ·rw [Aa Z] at g;have hk:k= .free:=by
    rw [uw,uw] at Z
    simpa using Z.1.1
   subst hk;cases U:x==n with
   |true=>
    have O:x=n:=beq_iff_eq.mp U;subst O;exact ug
   |false=>
    simp![vk,U] at g;exact ud _ (ih g)
  ·rw [A2 Z] at g;cases U:x==n with
   |true=>
    have O:x=n:=beq_iff_eq.mp U;subst O;simp![vk,U] at g;rcases g with g|g
    ·exact absurd (uK g) aa
    ·rw [show k=Vs from uK g]
     exact ug
   |false=>
    simp![vk,U] at g;exact ud _ (ih g)
abbrev blk (X:Cx)(scope:Vt)(Nb:oj Str)(cl:oj (Str×o3))(C:o3)(s₀:o7)(H₀:Hp)(fp:oj o3)(pn:oj (o3×Obj)):Cx:=
 {X with N:=Nb,s₀:=s₀,H₀:=H₀,env:=tY scope cl C X.env,outer:=X.stack,ex:=fp,fn:=λ_=>V9,pn:=pn,xe:=λ_ _=>False}
structure LcS (X:Cx)(scope:Vt)(Nb:oj Str)(nt:Nat)(fr:oj Nat):Prop where
 kind:scope.kind= .function
 cell:∀y∈scope.names,y.2≠ .cell
 names:∀y∈scope.names,y.2= .local->scope.names.lookup y.1=u_ .local
 free:∀y∈scope.names,y.2= .free->X.env.kindOf y.1=u_ .cell
 len:Nb.length=nt+fr.length
 fr:∀(k j:Nat) (x:Str),fr[k]? =u_ j->Nb[nt+k]? =u_ x->X.N[j]? =u_ x/\scope.names.lookup x=u_ .free
def sigB (nt:Nat)(fr:oj Nat)(σ:St):St:=Vl nt U_++fr.map λj=>(σ[j]?).join
section
variable {pr:o9}{wo:og}{ar:oh}{RR:Ge->o7->Prop}{st:o7}
abbrev nb (pr:o9)(wo:og)(ar:oh)(en:Env)(RR:Ge->o7->Prop):o6->o7->Prop:=notedBy (Vq pr wo) ar en λx t=>RR (.error x) t
abbrev tsts (en:Env)(cs:oj Expr):Sem Bool:=VN cs v_ λc b=>if b=v_ then do let y<-isTrue c en (eval c en);pure (Gq y) else pure (Gq b)
theorem compLoop_by {el tg Z:Expr}{cs:oj Expr}{sc:Vt}{ps:Pos}{O U:o6}{en:Env}(J:Nat->o7->Prop)
  (turn:∀k t,J k t->Va (Vq pr wo) ar (gP O) (λr t1=>match r with
   |none=>RR (.ok .next) t1
   |some v=>Va (Vq pr wo) ar (HH tg O v) (λ_ t2=>Va (Vq pr wo) ar (VY tg en v) (λ_ t3=>Va (Vq pr wo) ar (tsts en cs) (λb t4=>
     if b=v_ then Va (Vq pr wo) ar (eval el en) (λx t5=>Va (Vq pr wo) ar (call (.builtin "list.append") [U,x]) (λ_ t6=>∃m,m<k/\J m t6) (nb pr wo ar en RR) t5) (nb pr wo ar en RR) t4
     else∃m,m<k/\J m t4) (nb pr wo ar en RR) t3) (nb pr wo ar en RR) t2) (nb pr wo ar en RR) t1) (nb pr wo ar en RR) t)
  (k:Nat) (h0:J k st):VJ (Vq pr wo) ar (.compLoop (.ListComp el [⟨tg,Z,cs,(0)⟩] sc ps) 0 O U en) RR st:=by
 refine codeAny_loop rfl J (λk t hJ=> ?_) k h0;show Va _ ar ((compTurn (.ListComp el [⟨tg,Z,cs,(0)⟩] sc ps) 0 O U en).onRaise λx=>do noteFrame x en;theTreesLotGoes x) _ _ t
 rw [compTurn_list];refine wpAny_noted (Ab (HC (Ab (thn (turn k t hJ) λr t1 q1=> ?_))));cases r with
 |none=>exact uE q1
 |some v=>
  refine Ab (thn q1 λ_ t2 q2=>Ab (thn q2 λ_ t3 q3=>Ab (thn q3 λb t4 q4=> ?_)));cases b with
  |false=>exact uE [1:q4]
  |true=>exact Ab (Ab (thn q4 λx t5 q5=>Ab (thn q5 λ_ t6 q6=>uE (uE [1:q6]))))
end
def PIfs (X:Cx)(ifs:oj Expr)(t:TT):Prop:=
 ∀(oq:oj (o3×Obj)) (s:o7) (σ:St) (H:Hp) (Q:Bool->Hp->Prop),Inv X oq σ H s->t σ H Q->Va #[X,X] X.A (tsts X.env ifs) (TP X oq σ Q) X.xe s
def tYes:TT:=λ_ H Q=>Q v_ H
theorem Yd {X:Cx}:PIfs X [] tYes:=λ_ _ _ H _ I h=>wpAny_tests_nil [H:I:h]
theorem pif_one {X:Cx}{c:Expr}{t:TT}(h:PT X c t):PIfs X [c] t:=λoq s σ H Q I O=>wpAny_tests_one (h oq s σ H Q I O)
def lcGo (D:o3)(J:It)(g:TG)(tc:TT)(te:TE)(σb:St)(H1:Hp)(Q:VK):Prop:=
 ∃(n:Nat) (W:Nat->St->oj V->Hp->Prop),n<=Vb/\W 0 σb [] (upd H1 D (.lst []))/\
  (∀i σ ys H,i<n->W i σ ys H->H D=u_ (.lst ys)->ys.length<=i->J.go i H/\∀x H',J.yld i H x H'->g x σ H' λσ2 H2=>tc σ2 H2 λb H3=>
   if b=v_ then te σ2 H3 λy H4=>H4 D=u_ (.lst ys)/\W (i+1) σ2 (ys++ [y]) (upd H4 D (.lst (ys++ [y]))) else H3 D=u_ (.lst ys)/\W (i+1) σ2 ys H3)/\
  ∀σ ys H,W n σ ys H->H D=u_ (.lst ys)->J.stop n H/\Q (.ref D) H
def tLC (nt:Nat)(fr:oj Nat)(wi:TI)(g:TG)(tc:TT)(te:TE):TE:=λσ H Q=>wi σ H λJ H1=>∀D,H1 D=U_->lcGo D J g tc te (sigB nt fr σ) H1 Q
section
variable {X:Cx}{scope:Vt}{Nb:oj Str}{nt:Nat}{fr:oj Nat}
theorem inv_blk {oq:oj (o3×Obj)}{σ:St}{H:Hp}{s:o7}{fp:oj o3}{C:o3}{h4:o8}{tk:Nat}(S:LcS X scope Nb nt fr)(I:Inv X oq σ H s)(hC:C=s.heap.objs.size)
  (ag:h4.Ns C λ_=>U_) (U:∀b o,s.heap.get? b=u_ o->h4.get? b=u_ o) (hf:∀b∈fp,FpOk X oq H b) (ho:∀b∈fp,∃o,s.heap.get? b=u_ o) (ht:0<tk:=by ac_rfl):
  Inv (blk X scope Nb (clOf X.env.cells scope.names []) C s H fp (X.pn++oq)) [] (sigB nt fr σ) H {s with heap:=h4,toks:=tk}:=by
 subst hC;have sub:∀y c,(clOf X.env.cells scope.names []).lookup y=u_ c->X.env.cells.lookup y=u_ c:=kU λy c e=>by simp at e
 have Z:∀y,(y,Vs)∈scope.names->X.env.kindOf y=u_ .cell:=λy hy=>S.free _ hy rfl;have ad:∀b o,s.heap.get? b=u_ o->b≠s.heap.objs.size:=λb o e z=>by rw [z] at e;exact absurd (uG e) (vD _)
 have O:∀b,b≠X.env.locals->b∉X.fs->b∉frs X.stack:=λb h1 h2 z=>(Ac.mp (I.stkSub b z)).elim h1 h2;refine⟨⟨I.ok.mod,S.kind,I.ok.glob,I.ok.blt,uj _,λx y c h1 h2=>I.ok.inj x y c (sub x c h1) (sub y c h2),λx hx=> ?_,λx c z=>(by cases z),I.ok.hd,I.ok.frames,.inl rfl,λb hb=> ?_,I.bs,uM I.ok.bsz I.sz,λb o e hb=> ?_,λb hb=> ?_,I.stack,I.stkFree⟩,1,I.bare,Un.kept U,[_:ag:λi x v e1 e2 e3=> ?_],λx c e=> ?_,I.hok.fresh (uj _),λx c e=>I.freeC x c (sub x c e),λp hp=> ?_,I.hok.kept U,?_,ht⟩
 ·have hm:=Wi (env:=X.env) S.cell hx;exact Kl hm (I.ok.has x (.inl (Z x hm)))
 ·erw[ho b hb,o,e];exact[ad b o e:λx c e'=>(hf b hb).2.2.2.2.1 x c (sub x c e')]
 ·rcases(hf b hb).2.2.2.1 with z|z
  ·exact I.ok.noex b o e z
  ·exact absurd (Vo (uG e) (uM I.ok.bsz z)) (vD _)
 ·exact O b (hf b hb).2.1 (hf b hb).2.2.1
 ·
  have hi:nt<=i:=by
   rcases UN i nt with z|z
   ·unfold sigB at e2;rw [vP (by simpa using z),rM] at e2
    split at e2<;>cases e2
   ·exact z
  obtain⟨k,rfl⟩:∃k,i=nt+k:=[i-nt:()]
  unfold sigB at e2;rw [U0 (by simp)] at e2
  simp![rn,Ri,uI] at e2;cases ej:fr[k]? with
  |none=>rw [ej] at e2;cases e2
  |some j=>
   rw [ej] at e2;have aa:(σ[j]?).join=u_ v:=uK e2;have ae:σ[j]? =u_ (u_ v):=by
    cases q:σ[j]? with
    |none=>rw [q] at aa;cases aa
    |some z=>rw [q] at aa;exact congrArg u_ aa
   erw[S.fr k j x ej e1,n1,n2];have kx:X.env.kindOf x=u_ .cell:=Z x (vM n2);erw[I.loc,m,hn,hl];erw[hl j x v n1 ae (.inr (.inl kx)),u,r,l];refine[u:r:.inr [.inl (zW I.ok.kind n2 kx):?_]];rcases l with⟨z,_⟩|⟨_,c,ec,ac⟩
   ·rw [kx] at z;cases z
   ·erw[Kl (cells:=X.env.cells) (cs:= []) (vM n2) [c:ec],c',af];have:=sub x c' af;rw [ec] at this;cases this;erw[ac,o,q,d];exact⟨c,af,o,U c o q,d⟩
 ·erw[I.cell x c (sub x c e),v,o,q,d];exact⟨v,o,U c o q,d⟩
 ·have ah:p∈X.pn++oq:=by simpa using hp
  erw[I.pin p ah,e,n,ne,nf,d];exact⟨U _ _ e,n,ad _ _ e,O _ ne nf,d⟩
 ·show(sigB nt fr σ).length=Nb.length;unfold sigB;rw [S.len];simp
theorem lc_core {tg aa al:Expr}{am:oj Expr}{wi:TI}{g:TG}{tc:TT}{te:TE}{pos:Pos}{R:o6->o3->Ge->o7->Prop}{oq:oj (o3×Obj)}{s:o7}{σ:St}{H:Hp}{Q:VK}(S:LcS X scope Nb nt fr)(ao:X.calm=v_)(hi:PI X tg aa wi)
  (hg:∀cl C s₀ H₀ fp pn,PG (blk X scope Nb cl C s₀ H₀ fp pn) tg g) (hc:∀cl C s₀ H₀ fp pn,PIfs (blk X scope Nb cl C s₀ H₀ fp pn) am tc) (he:∀cl C s₀ H₀ fp pn,PE (blk X scope Nb cl C s₀ H₀ fp pn) al te)
  (I:Inv X oq σ H s) (h:tLC nt fr wi g tc te σ H Q)
  (hR:∀(D C:o3) (H':Hp) (s1:o7) (m:Str->om o6),Inv X oq σ H' s1->s1.heap.Ns C m->FpOk X oq H' C->Q (.ref D) H'->R (.ref D) C (.ok .next) s1):
  Va #[X,X] X.A (eval aa X.env) (λx s₁=>Va #[X,X] X.A (Hs x) (λit s₂=>Va #[X,X] X.A (GY []) (λax s₃=>
   Va #[X,X] X.A (Tz scope X.env.globals (clOf X.env.cells scope.names []) [] X.env.qual U_ .none (u_ X.env)) (λag s₄=>
    VJ #[X,X] X.A (.compStart (.ListComp al [⟨tg,aa,am,(0)⟩] scope pos) 0 it ax {ag with scope:=relabel scope X.env}) (R ax ag.locals) s₄) X.xe s₃) X.xe s₂) X.xe s₁) X.xe s:=by
 refine thn (hi oq s σ H _ I h) λv s1 h1=>thn h1 λaS s2 h2=> ?_;erw[h2,it,fp,tn,J,H2,e,I2,T,ap,f2,q2];subst e;have ay:H2 s2.heap.objs.size=none:=I2.hok.fresh (uj _);erw[q2 _ ay,n,W,hn,w0,step,fin];generalize hD:s2.heap.objs.size=D at*;refine vB ?_;rw [hD];have I3:Inv X oq σ (upd H2 D (.lst [])) {s2 with heap:=s2.heap.push {cls:= .type "list",data:= .seq ([]:oj o6).toArray}}:=by
  have:=I2.lnew (ys:= []) (its:= []) (t':=s2.toks) .nil (vf _);rwa [hD] at this
 refine wpAny_newFunctionEnv S.cell (by intro y hy;simp at hy) (λh4 ad aq=> ?_) S.kind
 dsimp only at ad aq⊢;generalize aA:s2.heap.push {cls:= .type "list",dict:=U_,data:= .seq ([]:oj o6).toArray}=h3 at ad aq I3⊢;have hC:h3.objs.size=D+1:=by rw [<-aA,vt,hD]
 have ae:∀b o,h3.get? b=u_ o->h4.get? b=u_ o:=λb o e=>aq.extBut b o (uS (uG e)) (ue _ e);have Z:∀b o,s2.heap.get? b=u_ o->h3.get? b=u_ o:=λb o e=>by rw [<-aA];exact ue _ e
 have au:∀b∈fp,∃o,s2.heap.get? b=u_ o:=λb O=>let⟨o,e,_⟩:=T.obj _ _ ap b O;[o:e];have aG:∀b∈fp,b≠D:=λb O z=>by
  erw[au b O,o,e];have q:=uG e;rw [z,hD] at q;exact vD _ q
 have f3:∀b∈fp,FpOk X oq (upd H2 D (.lst [])) b:=λb O=>⟨by rw [qh (aG b O)];exact(f2 b O).1,(f2 b O).2⟩
 have IB:=inv_blk (C:=h3.objs.size) (h4:=h4) (tk:=s2.toks+([]:oj (Str×o6)).length) (fp:=fp) S I3 rfl ad ae f3 λb O=>let⟨o,e⟩:=au b O;[o:Z b o e];generalize U:blk X scope Nb (clOf X.env.cells scope.names []) h3.objs.size {s2 with heap:=h3} (upd H2 D (.lst [])) fp (X.pn++oq)=Xb at IB
 have gB:=hg (clOf X.env.cells scope.names []) h3.objs.size {s2 with heap:=h3} (upd H2 D (.lst [])) fp (X.pn++oq)
 have cB:=hc (clOf X.env.cells scope.names []) h3.objs.size {s2 with heap:=h3} (upd H2 D (.lst [])) fp (X.pn++oq)
 have eB:=he (clOf X.env.cells scope.names []) h3.objs.size {s2 with heap:=h3} (upd H2 D (.lst [])) fp (X.pn++oq)
 rw [U] at gB cB eB;have xP:Xb.prog=X.prog:=by rw [<-U]
 have xW:Xb.w=X.w:=by rw [<-U]
 have xK:Xb.K=X.K:=by rw [<-U]
 have xA:Xb.A=X.A:=by rw [<-U]
 have xC:Xb.calm=true:=by rwa [<-U]
 have xE:Xb.env=tY scope (clOf X.env.cells scope.names []) h3.objs.size X.env:=by rw [<-U]
 have xX:Xb.xe=λ_ _=>False:=by rw [<-U]
 have af:∀{H':Hp},(∀b∈fp,H' b=U_)->∀b∈fp,FpOk Xb [] H' b:=λhn b O=>by
  erw[f2 b O,g1,g2,g3,g4,g5,g6];erw[au b O,o,e];subst U;refine⟨hn b O,λz=> ?_,λz=>(Ac.mp (I2.stkSub b z)).elim g2 g3,.inl O,λx c ec=>g5 x c (kU (λy c e=>by simp at e) x c ec),λp hp=>g6 p (by simpa using hp)⟩
  have ac:=uG (Z b o e);have z':b=h3.objs.size:=z;rw [z'] at ac;exact vD _ ac
 have ah:∀s5:o7,s5={s2 with heap:=h4,toks:=s2.toks+([]:oj (Str×o6)).length}->
   VJ #[X,X] X.A (.compLoop (.ListComp al [⟨tg,aa,am,(0)⟩] scope pos) 0 (.ref it) (.ref D) (tY scope (clOf X.env.cells scope.names []) h3.objs.size X.env))
    (R (.ref D) h3.objs.size) s5:=by
  rintro s5 rfl;refine compLoop_by (λk s'=>∃i σ' ys H',Inv Xb [] σ' H' s'/\tn i s'.heap/\(∀b∈fp,H' b=U_)/\H' D=u_ (.lst ys)/\i<=n/\k=n-i/\ys.length<=i/\W i σ' ys H') ?_ n
   ⟨(0),sigB nt fr σ,[],_,IB,T.keep _ _ _ ap λb O o e=>ae b o (Z b o e),λb O=>(f3 b O).1,qg,vf _,1,uj _,w0⟩
  rintro k s' ⟨i,σ',ys,H',I',aB,aC,aD,aH,rfl,aI,w'⟩;rcases UN i n with ac|aJ
  ·erw[step i σ' ys H' ac w' aD aI,go,next];have ti:=T.item Xb xP xW xK xC i [] s' σ' H' (λ_ _=>False) I' (af aC) aB go;rw [xA] at ti;refine vS ti (λr s1 h1=> ?_) λ_ _ z=>z.elim;erw[h1,u,rfl,h1];refine vS h1 (λ_ aE aK=> ?_) λ_ _ z=>z.elim;erw[aK,x,H5,I5,r5,y5,aw,aL];have aM:=I5.pinned (af aL) (T.obj _ _ aw);have ga:=gB _ aE σ' H5 x u _ aM r5 (next x H5 y5);rw [xP,xW,xA,xE,xX] at ga;refine vS ga (λ_ s3 aN=> ?_) λ_ _ z=>z.elim;erw[aN,σ6,H6,I6,q6];have ca:=cB _ s3 σ6 H6 _ I6 q6;rw [xP,xW,xA,xE,xX] at ca;refine vS ca (λok s4 aO=> ?_) λ_ _ z=>z.elim;erw[aO,H7,I7,q7];have ak:∀{σ8:St}{H8:Hp}{s8:o7},Inv Xb ([]++pinsAt fp aE.heap) σ8 H8 s8->Inv Xb [] σ8 H8 s8/\tn (i+1) s8.heap/\∀b∈fp,H8 b=none:=λ{σ8 H8 s8} I8=>by
    refine[I8.unpinned:T.keep _ _ _ aw λb O o e=>(I8.pin (b,o) (uP _ (uP _ (JI O e)))).1:λb O=> ?_];erw[T.obj _ _ aw b O,o,e,d];exact(I8.pin (b,o) (uP _ (uP _ (JI O e)))).2.1
   cases ok with
   |false=>
    rw [A2 u5] at q7⊢;erw[ak I7,b1,b2,b3];exact⟨n-(i+1),(),i+1,σ6,ys,H7,b1,b2,b3,q7.1,ac,1,(),q7.2⟩
   |true=>
    rw [Aa rfl] at q7⊢;have ea:=eB _ s4 σ6 H7 _ I7 q7;rw [xP,xW,xA,xE,xX] at ea;refine vS ea (λy s5 h5=> ?_) λ_ _ z=>z.elim;erw[h5,yv,H8,I8,r8,aP,q8];have ma:=yb (X:=Xb) _ s5 σ6 H8 (.ref D) [yv] (.ref D) [y] (λ_ H9=>H9=upd H8 D (.lst (ys++ [yv]))) I8 rfl (.cons r8 .nil) ⟨D,ys,yv,1,1,aP,(),1⟩
    rw [xP,xW,xA,xX] at ma;refine vS ma (λ_ s6 h6=> ?_) λ_ _ z=>z.elim;erw[h6,_,H9,I9,_,rfl];erw[ak I9,b1,b2,b3];exact⟨n-(i+1),(),i+1,σ6,ys++ [yv],_,b1,b2,b3,qg,ac,1,by rw [uB,vq];omega,q8⟩
  ·have aF:i=n:=Nat.le_antisymm aH aJ;subst aF;erw[fin σ' ys H' w' aD,stop,hq];have td:=T.done Xb xP xW xK xC i [] s' σ' H' (λ_ _=>False) I' (af aC) aB stop;rw [xA] at td;refine vS td (λr s1 h1=> ?_) λ_ _ z=>z.elim;erw[h1,rfl,I6];erw[id I6.loc,m,hm,_];rw [xE] at hm;have aQ:H' h3.objs.size=none:=by have:=I6.free;rwa [xE] at this
   have u6:Un (frs X.stack) fp (upd H2 D (.lst [])) H' h3 s1.heap:=by have:=I6.base;subst U;exact this
   have u2:Un (frs X.stack) fp H2 (upd H2 D (.lst [])) s2.heap h3:=Un.laid (λb o e=>Z b o e) (by rw [hD];exact uj _) ay
   have aR:s1.os=s2.os:=by have:=I6.os;subst U;exact this
   have hok:HOk X.prog X.w H' s1.heap:=by
    have:=I6.hok;subst U;exact this
   refine hR D h3.objs.size H' s1 m (I2.call' (s':=s1) (ch:=fp) aR (u2.trans u6) hok I6.bare λb O=> ?_) hm (I2.fpOk () aQ) hq
   erw[f2 b O,g1,g2,g3,g4,g5,g6];exact⟨g4,g2,g5,g6⟩
 exact codeAny_compStart_list (ah _ rfl) (T.self _ 0 _ _ _ (T.keep _ _ _ ap λb O o e=>ae b o (Z b o e)) (ah _ rfl))
theorem Zm {tg O aa:Expr}{ac:oj Expr}{wi:TI}{g:TG}{tc:TT}{te:TE}{pos:Pos}(S:LcS X scope Nb nt fr)(U:X.calm=v_)(hi:PI X tg O wi)
  (hg:∀cl C s₀ H₀ fp pn,PG (blk X scope Nb cl C s₀ H₀ fp pn) tg g) (hc:∀cl C s₀ H₀ fp pn,PIfs (blk X scope Nb cl C s₀ H₀ fp pn) ac tc) (he:∀cl C s₀ H₀ fp pn,PE (blk X scope Nb cl C s₀ H₀ fp pn) aa te)
  (hs:∀x,HL O X.env x=pure x):PE X (.ListComp aa [⟨tg,O,ac,(0)⟩] scope pos) (tLC nt fr wi g tc te):=by
 intro oq s σ H Q I h;have Z:hX scope X.env=pure (clOf X.env.cells scope.names []):=W2 λy hy=>I.ok.has y (.inl (S.free _ hy rfl));rw [eval_ListComp];refine rc (use:=U_) rfl hs Z S.kind S.names ?_;refine lc_core (R:=λad C=>compPost #[X,X] X.A X.xe U_ (EP X oq σ Q) ad C) S U hi hg hc he I h λD C H' s1 m I1 hm fc q=> ?_;erw[fc,f0,f1,f2,f3,f4,f5];exact[m:hm:λh' ae=>⟨.ref D,H',I1.turned (t':=s1.toks) (it:=C) (λb o hb e=>(ae.2 b hb).trans e) f0 f1 f3 f4 f5,1,q⟩]
theorem ps_setLC {i:Nat}{y:Str}{tg O U:Expr}{Z:oj Expr}{wi:TI}{g:TG}{tc:TT}{te:TE}{pos aa py:Pos}(hN:X.N.Nodup)(ae:X.N[i]? =u_ y)(hy:Loc X.env.scope y)(S:LcS X scope Nb nt fr)(ac:X.calm=v_)(hi:PI X tg O wi)
  (hg:∀cl C s₀ H₀ fp pn,PG (blk X scope Nb cl C s₀ H₀ fp pn) tg g) (hc:∀cl C s₀ H₀ fp pn,PIfs (blk X scope Nb cl C s₀ H₀ fp pn) Z tc) (he:∀cl C s₀ H₀ fp pn,PE (blk X scope Nb cl C s₀ H₀ fp pn) U te)
  (hs:∀x,HL O X.env x=pure x) (af:GS (.ListComp U [⟨tg,O,Z,(0)⟩] scope pos) (u_ (.Name y py)) aa.line X.env=pure v_)
  (hf:X.fn y=v_∨X.env.scope.names.lookup y=u_ .local):
  PS X (.Assign [.Name y py] (.ListComp U [⟨tg,O,Z,(0)⟩] scope pos) aa) (tAsg (tLC nt fr wi g tc te) (Jv i)):=by
 intro oq s σ H D I h;have ad:hX scope X.env=pure (clOf X.env.cells scope.names []):=W2 λy hy=>I.ok.has y (.inl (S.free _ hy rfl));rw [exec_Assign_Name_used _ _ _ _ af];refine Ab (HC (Ab ?_));show Va _ X.A (do let _<-comprehension (.ListComp U [⟨tg,O,Z,(0)⟩] scope pos) scope X.env _ (GY []) V9 (eval O X.env) (u_ (VY (.Name y py) X.env))) _ _ s
 refine Ab (vS (rc (use:=u_ (VY (.Name y py) X.env)) (Q:=λ_ s'=>SP X oq D .next s') rfl hs ad S.kind S.names ?_) (λ_ s' hq=>uE (uE hq)) λ_ _ e=>e);refine lc_core (R:=λag C=>compPost #[X,X] X.A X.xe (u_ (VY (.Name y py) X.env)) (λ_ s'=>SP X oq D .next s') ag C) S ac hi hg hc he I h λA C H' s1 m I1 hm fc q=> ?_;erw[fc,f0,f1,f2,f3,f4,f5];show Va _ X.A (VY (.Name y py) X.env (.ref A)) _ _ s1;refine TB (store_ok2 (v:= .ref A) I1 hN ae hy (show RelV (.ref A) (.ref A) from rfl) (λs' I' zq=> ?_) hf);erw[zq,a,sb,ha]
 have ah:C≠a:=by
  rcases ha with rfl|ha
  ·exact f1
  ·exact λz=>f4 y a ha z.symm
 refine[m:hm.sameBut sb ah:λh' ak=>⟨_,H',I'.turned (t':=s'.toks) (it:=C) (λb o hb e=>(ak.2 b hb).trans e) f0 f1 f3 f4 f5,q⟩]
end
theorem lcs0 {X:Cx}{sc:Vt}{x:Str}(O:sc.kind= .function:=by rfl)(U:∀y∈sc.names,y.2≠ .cell:=by decide+kernel)(hn:∀y∈sc.names,y.2= .local->sc.names.lookup y.1=u_ .local:=by decide+kernel)
  (Z:∀y∈sc.names,y.2≠ .free:=by decide+kernel):LcS X sc [x] 1 []:=⟨O,U,hn,λy hy e=>absurd e (Z y hy),1,λk j x h=>by simp at h⟩
theorem lcsN {X:Cx}{sc:Vt}{Nb:oj Str}{nt:Nat}{fr:oj Nat}(O:Vt)(U:oj Str)(Z:X.env.scope=O:=by rfl)(hN:X.N=U:=by rfl)(hk:sc.kind= .function:=by rfl)(hc:∀y∈sc.names,y.2≠ .cell:=by decide+kernel)
  (hn:∀y∈sc.names,y.2= .local->sc.names.lookup y.1=u_ .local:=by decide+kernel) (hf:∀y∈sc.names,y.2= .free->O.names.lookup y.1=u_ .cell:=by decide+kernel) (hl:Nb.length=nt+fr.length:=by rfl)
  (hz:((fr.zip (Nb.drop nt)).all λp=>decide (U[p.1]? =u_ p.2)&&decide (sc.names.lookup p.2=u_ .free))=true:=by decide+kernel):LcS X sc Nb nt fr:=by
 subst Z hN;refine⟨hk,hc,hn,hf,hl,λk j x h1 h2=> ?_⟩;have hm:(fr.zip (Nb.drop nt))[k]? =u_ (j,x):=by
  rw [FV];exact⟨h1,by rwa [List.getElem?_drop]⟩
 have q:=List.all_eq_true.mp hz _ (uX hm);rw [uw] at q;exact[uA q.1:uA q.2]
theorem lc_str {z:Str}{D:o3}{H1:Hp}{te:TE}{tl:St}{Q:VK}(f:Nat->V)(hz:z.length<=Vb)(Z:H1 D=U_)
  (O:∀(i c:Nat) H (R:VK),z.cps[i]? =u_ c->Same H1 H->R (f c) H->te (u_ (.str ⟨#[c]⟩)::tl) H R)
  (hQ:∀H',Same H1 H'->H' D=u_ (.lst (z.cps.toList.map f))->Q (.ref D) H'):lcGo D (Its z) (Jv 0) tYes te (U_::tl) H1 Q:=by
 refine⟨z.cps.size,λi σ ys H=>(∃w,σ=w::tl)/\ys=(z.cps.toList.take i).map f/\Same H1 H,hz,[[U_:1]:1:qf Z _],?_,?_⟩
 ·rintro i σ ys H hi ⟨⟨w,rfl⟩,rfl,sm⟩ U hy;exists hi;rintro x H' ⟨rfl,c,hc,rfl⟩;dsimp![Jv,tYes,GL];rw [Aa rfl];refine O i c H' _ hc sm ⟨U,[u_ (.str ⟨#[c]⟩):1],?_,?_⟩
  ·rw [vV,show z.cps.toList[i]? =u_ c by simpa using hc]
   simp
  ·intro b o e;rw [qh (ql e Z)];exact sm b o e
 ·rintro σ ys H ⟨_,rfl,sm⟩ U;refine[1:hQ H sm ?_];rw [U,uT (by simp)]
inductive IsT (H:Hp) (p:List V->Prop) (v:V):Prop
 |mk (a:Addr) (vs:List V) (_:v= .ref a) (_:H a=u_ (.tup vs)) (_:p vs)
inductive IsC (p:V->Prop) (q:List V->Prop) (vs:List V):Prop
 |mk (v:V) (r:List V) (_:vs=v::r) (_:p v) (_:q r)
mutual
def Is (H:Hp):D->V->Prop
 | .non,v=>v= .non
 | .bl b,v=>v= .bl b
 | .int i,v=>v= .int i
 | .str z,v=>v= .str z/\z.length<=Vb
 | .lst,v=>∃a xs,v= .ref a/\H a=u_ (.lst xs)
 | .dct,v=>∃a kvs,v= .ref a/\H a=u_ (.dK kvs)
 | .tup xs,v=>IsT H (IsL H xs) v
def IsL (H:Hp):oj D->oj V->Prop
 | [],vs=>vs= []
 |x::xs,vs=>IsC (Is H x) (IsL H xs) vs
end
structure Tk (H H':Hp):Prop where
 tup:∀b xs,H b=u_ (.tup xs)->H' b=u_ (.tup xs)
 lst:∀b xs,H b=u_ (.lst xs)->∃ys,H' b=u_ (.lst ys)
 dct:∀b xs,H b=u_ (.dK xs)->∃ys,H' b=u_ (.dK ys)
theorem Same.tk (s:Same H H'):Tk H H':=[λb xs e=>s b _ e:λb xs e=>[xs:s b _ e]:λb xs e=>[xs:s b _ e]]
theorem Tk.refl (H:Hp):Tk H H:=(Same.refl H).tk
theorem Tk.trans (a:Tk H H1)(b:Tk H1 H2):Tk H H2:=⟨λc xs e=>b.tup c xs (a.tup c xs e),λc xs e=>let⟨ys,e1⟩:=a.lst c xs e;b.lst c ys e1,λc xs e=>let⟨ys,e1⟩:=a.dct c xs e;b.dct c ys e1⟩
variable {xs ys:oj V}
theorem Kept.tk (k:Kept p H H')(h:H p=u_ (.lst xs))(h':H' p=u_ (.lst ys)):Tk H H':=by
 refine[λb zs e=>k b _ e λz=> ?_:λb zs e=> ?_:λb zs e=>[zs:k b _ e λz=> ?_]]
 ·rw [z,h] at e;cases e
 ·by_cases z:b=p
  ·exact[ys:z▸h']
  ·exact[zs:k b _ e z]
 ·rw [z,h] at e;cases e
mutual
theorem Is.mono {H H':Hp}(t:Tk H H'):∀{d:D}{v:V},Is H d v->Is H' d v
 | .non,_,h=>h
 | .bl _,_,h=>h
 | .int _,_,h=>h
 | .str _,_,h=>h
 | .lst,_,h=>by
  erw[h,a,vs,e,ha];erw[t.lst a vs ha,ys,q];exact⟨a,ys,e,q⟩
 | .dct,_,h=>by
  erw[h,a,vs,e,ha];erw[t.dct a vs ha,ys,q];exact⟨a,ys,e,q⟩
 | .tup xs,_,h=>by
  erw[h,a,vs,e,ha,O];exact⟨a,vs,e,t.tup a vs ha,IsL.mono t O⟩
theorem IsL.mono {H H':Hp}(t:Tk H H'):∀{ds:oj D}{vs:oj V},IsL H ds vs->IsL H' ds vs
 | [],_,h=>h
 |_::_,_,h=>by
  erw[h,v,r,e,h1,h2];exact⟨v,r,e,Is.mono t h1,IsL.mono t h2⟩
end
theorem IsL.length {H:Hp}:∀{ds:oj D}{vs:oj V},IsL H ds vs->vs.length=ds.length
 | [],_,h=>by cases(show _= [] from h);rfl
 |_::_,_,h=>by
  erw[h,v,r,rfl,_,h2];rw [um,um,IsL.length h2]
theorem IsL.get {H:Hp}:∀{ds:oj D}{vs:oj V}{i:Nat}{d:D},IsL H ds vs->ds[i]? =u_ d->∃v,vs[i]? =u_ v/\Is H d v
 | [],_,_,_,_,e=>by simp at e
 |x::_,_,0,d,h,e=>by
  erw[h,v,r,rfl,h1,_];have:x=d:=by simpa using e
  exact[v:1:this▸h1]
 |_::_,_,i+1,d,h,e=>by
  erw[h,v,r,rfl,_,h2];obtain⟨u,O,U⟩:=IsL.get (i:=i) (d:=d) h2 (by simpa using e)
  exact⟨u,by simpa using O,U⟩
theorem IsL.append {H:Hp}:∀{ds es:oj D}{vs us:oj V},IsL H ds vs->IsL H es us->IsL H (ds++es) (vs++us)
 | [],_,_,_,h,k=>by cases(show _= [] from h);exact k
 |_::_,_,_,_,h,k=>by
  erw[h,v,r,rfl,h1,h2];exact⟨v,0,h1,IsL.append h2 k⟩
theorem IsL.take {H:Hp}:∀{ds:oj D}{vs:oj V} (n:Nat),IsL H ds vs->IsL H (ds.take n) (vs.take n)
 |_,_,0,_=>by simp [IsL]
 | [],_,n+1,h=>by cases(show _= [] from h);simp [IsL]
 |_::_,_,n+1,h=>by
  erw[h,v,r,rfl,h1,h2];exact⟨v,0,h1,IsL.take n h2⟩
theorem IsL.drop {H:Hp}:∀{ds:oj D}{vs:oj V} (n:Nat),IsL H ds vs->IsL H (ds.drop n) (vs.drop n)
 |_,_,0,h=>h
 | [],_,n+1,h=>by cases(show _= [] from h);simp [IsL]
 |_::_,_,n+1,h=>by
  erw[h,v,r,rfl,h1,h2];exact IsL.drop n h2
variable {v:V}
theorem IsL.one {d:D}(h:Is H d v):IsL H [d] [v]:=⟨v,[],1,h,1⟩
variable {ds:oj D}
theorem Is.new {vs:oj V}(h:IsL H ds vs)(O:H p=U_):Is (upd H p (.tup vs)) (.tup ds) (.ref p):=
 ⟨p,vs,1,qg,h.mono (qf O _).tk⟩
def tyD:D->o6
 | .non=> .type "NoneType"
 | .bl _=> .type "bool"
 | .int _=> .type "int"
 | .str _=> .type "str"
 | .lst=> .type "list"
 | .dct=> .type "dict"
 | .tup _=> .type "tuple"
theorem Is.ty {d:D}(h:Is H d v):TyOf K H v (tyD d):=by
 cases d with
 |non=>cases(show v= .non from h);exact .non
 |bl b=>cases(show v= .bl b from h);exact .bl b
 |int i=>cases(show v= .int i from h);exact .int i
 |str z=>
  erw[h,rfl,_];exact .str z
 |lst=>
  erw[h,a,vs,rfl,ha];exact .lst ha
 |dct=>
  erw[h,a,vs,rfl,ha];exact .dK ha
 |tup xs=>
  erw[h,a,vs,rfl,ha,_];exact .tup ha
end L2
namespace PySem.AwM
open PySem.AutoSeq1 PySem.MeetsSeq PySem.MeetsSeq3
theorem KI (a:Int)(t:Tok)(l:o3)(items:Array o6)(n:Nat)(dd:om o3)(sl:Array (om o6)):
  G9 (VS.«int.__rmul__» [[.int a t,.ref l]:[]]) (λ_ R s=>s.heap.get? l=u_ {cls:= .type "tuple",dict:=dd,data:= .seq items n,slots:=sl}/\R (.ok (.ret Value.notImplemented)) s):=
 .of_wp λprog w A R s h=>by erw[s,O,g,d,tk,os];erw[h,U,q];wp_walk;exact[0:q]
theorem tuple_mul (l:o3)(items:Array o6)(n:Nat)(dd:om o3)(sl:Array (om o6))(k:Int)(u:Tok)(h1:1<k)(h2:k<2^63)(ad:items.isEmpty=V9)(hz:items.size*k.toNat<=Vb)
  (U:¬(decide (k< -(2^63))||decide (k≥2^63))=v_) (Z:¬(items.isEmpty||k==1)=v_) (aa:¬(decide (k<=0)||items.isEmpty)=v_) (ac:¬(items.size:Int)*k>(2^63-1)/8) (ae:¬Tq ((items.size:Int)*k)=v_)
  (af:((Vl k.toNat items).foldl (·++ ·) #[]).size<=Vb):
  G9 (VS.«tuple.__mul__» [[.ref l,.int k u]:[]]) (λ_ R s=>s.heap.get? l=u_ {cls:= .type "tuple",dict:=dd,data:= .seq items n,slots:=sl}/\
   R (.ok (.ret (Vf s.heap.objs.size))) {s with heap:=s.heap.push {cls:=gS "tuple",data:=HS ((Vl k.toNat items).foldl (·++ ·) #[])},toks:=s.toks}):=
 .of_wp λprog w A R s h=>by
  erw[s,hp,g,d,tk,os];erw[h,O,h];have f1:=idx_int;have f2:=sub_tuple_tuple;have f3:=sub_list_list;have f4:=sub_tuple_list;have f5:=sub_list_tuple;
  wp_walk using vY O
  rw [A2 U]
  wp_walk using vY O
  rw [A2 Z]
  wp_walk using vY O
  rw [A2 aa]
  wp_walk using vY O
  rw [A2 ac]
  wp_walk using vY O
  exact[0:h]
end PySem.AwM
namespace L2
open PySem PySem.Spec PyProof.Rows
section
variable {X:Cx}
theorem op_gt_str:OpR X (Vm .Gt) (λx y H Q=>∃i j,x= .str i/\y= .str j/\Q (.bl (decide (j.cps.toList<i.cps.toList))) H):=by
 intro oq s σ H x y v u Q I O U h;erw[h,i,j,rfl,rfl,q];erw[O,t,rfl];erw[U,t',rfl];exact PySem.P.gt_str (Ql I q rfl)
theorem ZO (Z:X.calm=v_):Y6 X (.builtin "sum") (λxs H Q=>∃(p:o3) (ns:oj Int),xs= [.ref p]/\SqL X.K H p (ns.map V.int)/\Q (.int ns.sum) H):=by
 intro oq s σ H xs us Q I r h;erw[h,p,ns,rfl,hp,q];erw[JR r,u,rfl,ru];cases ru;erw[I.list hp,its,rv,pl,hz];have hi:Gf its ns:=intsAre_of rv;erw[hi.allInts.items,ys,U];have O:s.heap.IsList p (intItems ys):=U▸pl.isList;refine vh (n:=1) I.tk (sum_intListG (I.ok.hd Z) O λh' tk t' hk=> ?_);intro htk;have e1:ns=ys.toList.map (·.1):=by
  have q1:=hi.numsOf;rw [<-nums_intItems,<-U];exact(show numsOf its.toArray.toList=ns from q1).symm
 have e2:preSum (numAt ys) ys.size=ns.sum:=by
  rw [preSum_eq,uT (by simp),e1]
 rw [e2];exact⟨.int ns.sum,H,I.kept hk,[t':1],q⟩
theorem Yf:fillsNumberSlot (.type "tuple") "mul"=pure false:=
 PySem.fillsNumberSlot_seq (id:="tuple.__mul__") (r:=u_ (.builtin "tuple.__rmul__")) F.slot_tuple_mul.lookup () F.slot_tuple_rmul.lookup ()
theorem Ji:seqRepeat? (.type "tuple")=pure (u_ (.builtin "tuple.__mul__")):=by
 unfold seqRepeat?;rw [PySem.seqSlot_of (T:="tuple") (name:="__mul__") (id:="tuple.__mul__") F.slot_tuple_mul.lookup (),PySem.seqSlot_of (T:="tuple") (name:="__rmul__") (id:="tuple.__rmul__") F.slot_tuple_rmul.lookup ()];rfl
inductive rRepT (K:PySem.W.Frag) (x:V) (y:V) (H:Hp) (Q:VK):Prop
 |mk (l:_) (k:_) (xs:_) (_:x= .ref l) (_:y= .int k) (_:SqT K H l xs) (_:xs≠ []) (_:1<k) (_:k<1000000) (_:xs.length*k.toNat<=Vb) (_:∀p,H p=U_->Q (.ref p) (upd H p (.tup (Vl k.toNat xs).flatten)))
theorem op_repT:OpR X (VC .Mult) (rRepT X.K):=by
 intro oq s σ H x y v u Q I rx ry h;erw[h,l,k,xs,rfl,rfl,hH,ad,h1,h2,hz,q];cases rx;erw[ry,t,rfl];erw[I.tuple hH,its,r,p,z];erw[id p,[cls,dd,data,sl],e,hc,n,hd];simp only at hc hd;subst hc hd;have hl:=r.length;have Z:RD (λx1 x2=>x1++x2) #[] (Vl k.toNat its.toArray)=(Vl k.toNat its).flatten.toArray:=by
  have:=foldl_rep its k.toNat [];rwa [Fb] at this
 have O:its.toArray.isEmpty=false:=by
  cases its with
  |nil=>exact absurd (vg hl) ad
  |cons a b=>rfl
 have ae:(k==1)=false:=beq_eq_false_iff_ne.mpr ()
 have ac:(its.toArray.size:Int)*k<=sizeLine:=by
  have e1:k=((k.toNat:Nat):Int):=by omega
  rw [e1,uz,<-hl]
  exact_mod_cast hz
 have aa:(Vb:Int)<=(2^63-1)/8:=by decide
 have c1:¬(decide (k< -(2^63))||decide (k≥2^63))=true:=by
  rw [uh (),uh ()];exact u5
 have c2:¬(its.toArray.isEmpty||k==1)=true:=by rw [O,ae];exact u5
 have c3:¬(decide (k<=0)||its.toArray.isEmpty)=true:=by rw [uh (),O];exact u5
 have c4:¬(its.toArray.size:Int)*k>(2^63-1)/8:=by
  intro w;exact absurd (Int.lt_of_lt_of_le w ac) (Int.not_lt.mpr aa)
 have c5:¬Tq ((its.toArray.size:Int)*k)=true:=by
  unfold Tq;intro w;have w':=uA w;omega
 have c6:((Vl k.toNat its.toArray).foldl (·++ ·) #[]).size<=sizeLine:=by
  rwa [Z,uz,len_rep,<-hl,RO]
 refine UH (T:="tuple") (U:="int") () p.typeIs (λs'=>V8 s' k t) Yf F.fills_int_mul UB Ji F.slot_int_index.lookup
  (vn UB (V8 s k t) F.entry_int_rmul (F.args_int_rmul_2 _ _) (AwM.KI k t l its.toArray n dd sl)
   ⟨e,1,p.typeIs,vn F.slot_tuple_mul p.typeIs F.entry_tuple_mul (F.args_tuple_mul_2 _ _) (AwM.tuple_mul l its.toArray n dd sl k t h1 () O (by rwa [uz,<-hl]) c1 c2 c3 c4 c5 c6) [e:?_]⟩)
 rw [Z];refine⟨.ref s.heap.objs.size,_,I.laid (t':=s.toks) (o:= .tup (Vl k.toNat xs).flatten) (λb ob w=>ue _ w) (uj _) ?_,1,q _ (I.hok.fresh (uj _))⟩;exact⟨by rwa [len_rep,RO],_,r.rep k.toNat,Gh _ _⟩
inductive rCatG (K:PySem.W.Frag) (x:V) (y:V) (H:Hp) (Q:VK):Prop
 |mk (a:_) (b:_) (xs:_) (ys:_) (_:x= .ref a) (_:y= .ref b) (_:SqT K H a xs) (_:SqT K H b ys) (_:xs.length+ys.length<=Vb) (_:(xs= []->Q (.ref b) H)) (_:(xs≠ []->ys= []->Q (.ref a) H)) (_:(xs≠ []->ys≠ []->∀p,H p=U_->Q (.ref p) (upd H p (.tup (xs++ys)))))
theorem Z0:OpR X (VC .Add) (rCatG X.K):=by
 intro oq s σ H x y v u Q I U Z h;erw[h,a,b,xs,ys,rfl,rfl,ha,hb,hz,q0,q1,q2];by_cases O:xs= []
 ·cases U;cases Z;erw[I.tuple ha,its,r1,p1,_];erw[I.tuple hb,aa,r2,p2,_];subst O;cases r1;erw[id p1,[c1,d1,t1,l1],o1,e1,n1,f1];erw[id p2,[c2,d2,t2,l2],o2,e2,n2,f2];simp only at e1 f1 e2 f2;subst e1 f1 e2 f2;exact tN p1.typeIs p2.typeIs tV T4 PySem.F.slot_tuple_add US (UL _ _) (tuple_addW0 a b _ _ n1 n2 d1 d2 l1 l2 rfl) [o1:o2:⟨.ref b,H,I,1,q0 rfl⟩]
 ·exact op_catT oq s σ H (.ref a) (.ref b) v u Q I U Z ⟨a,b,xs,ys,1,1,ha,hb,O,hz,q1 O,q2 O⟩
end
variable {H:Hp}{p:o3}{xs ys:oj V}
theorem Tk.updL (h:H p=u_ (.lst xs)):Tk H (upd H p (.lst ys)):=by
 refine[λb zs e=> ?_:λb zs e=> ?_:λb zs e=>[zs:?_]]
 ·rw [qh (λz=>by rw [z,h] at e;cases e)];exact e
 ·by_cases z:b=p
  ·exact⟨ys,by rw [z];exact qg⟩
  ·exact⟨zs,by rwa [qh z]⟩
 ·rw [qh (λz=>by rw [z,h] at e;cases e)];exact e
theorem lc_data {J:It}{A:o3}{H1:Hp}{te:TE}{tl:St}{Q:VK}{ds:oj D}(f:D->D)(hn:ds.length<=Vb)(hA:H1 A=U_)
  (aa:∀i H,Same H1 H->i<ds.length->J.go i H) (hy:∀i H x H' d,Same H1 H->ds[i]? =u_ d->J.yld i H x H'->H'=H/\Is H d x) (U:∀H,Same H1 H->J.stop ds.length H)
  (ac:∀d x H (R:VK),d∈ds->Same H1 H->Is H d x->(∀y H',Same H H'->Is H' (f d) y->R y H')->te (u_ x::tl) H R)
  (hQ:∀H' ys,Same H1 H'->H' A=u_ (.lst ys)->IsL H' (ds.map f) ys->Q (.ref A) H'):lcGo A J (Jv 0) tYes te (U_::tl) H1 Q:=by
 refine⟨ds.length,λi σ ys H=>(∃w,σ=w::tl)/\IsL H ((ds.take i).map f) ys/\Same H1 H,hn,[[U_:1]:1:qf hA _],?_,?_⟩
 ·rintro i σ ys H hi ⟨⟨w,rfl⟩,Z,sm⟩ O ae;refine[aa i H sm hi:λx H' y=> ?_];erw[hy i H x H' ds[i] sm (ur hi) y,rfl,hx];dsimp![Jv,tYes,GL];rw [Aa rfl];refine ac ds[i] x H' _ (vi hi) sm hx λy' H4 s4 ad=>⟨s4 _ _ O,[u_ x:1],?_,λb o e=> ?_⟩
  ·have t:Tk H4 (upd H4 A (.lst (ys++ [y']))):=Tk.updL (s4 _ _ O);have e:(ds.take (i+1)).map f=(ds.take i).map f++ [f ds[i]]:=by
    rw [vV,ur hi,uu]
    rfl
   rw [e];exact((Z.mono s4.tk).mono t).append (IsL.one (ad.mono t))
  ·rw [qh (ql e hA)];exact s4 b o (sm b o e)
 ·rintro σ ys H ⟨_,Z,sm⟩ O;refine[U H sm:hQ H ys sm O ?_];rwa [uT (uj _)] at Z
theorem lc_tupS {K:o0}{a A:o3}{H1:Hp}{te:TE}{tl:St}{Q:VK}{ds:oj D}{vs:oj V}(f:D->D)(ha:H1 a=u_ (.tup vs))(U:IsL H1 ds vs)(hn:ds.length<=Vb)(hA:H1 A=U_)
  (O:∀d x H (R:VK),d∈ds->Same H1 H->Is H d x->(∀y H',Same H H'->Is H' (f d) y->R y H')->te (u_ x::tl) H R)
  (hQ:∀H' ys,Same H1 H'->H' A=u_ (.lst ys)->IsL H' (ds.map f) ys->Q (.ref A) H'):lcGo A (Itt K a) (Jv 0) tYes te (U_::tl) H1 Q:=by
 have ln:=U.length;refine lc_data f hn hA (λi H sm hi=>⟨vs,vs[i]'(),SqT.of (sm _ _ ha),ur _⟩) (λi H x H' d sm hd y=> ?_) (λH sm=>[vs:SqT.of (sm _ _ ha):()]) O hQ
 erw[y,rfl,y];erw[U.get hd,v,e1,e2];have Z:=y vs (SqT.of (sm _ _ ha));rw [e1] at Z;cases Z;exact[1:e2.mono sm.tk]
theorem IsL.bls {H:Hp}:∀{bs:oj Bool}{vs:oj V},IsL H (bs.map D.bl) vs->vs=bs.map V.bl
 | [],_,h=>h
 |_::_,_,h=>by
  erw[h,v,r,rfl,h1,h2];rw [IsL.bls h2,show v=_ from h1];rfl
variable {K:o0}{ds:oj D}{v:V}{i:Int}{Q:VK}
theorem xJ {d:D}(h:Is H (.tup ds) v)(hi:atI ds i=u_ d)(q:∀x,Is H d x->Q x H):rIxT K v (.int i) H Q:=by
 erw[h,a,vs,rfl,ha,O];erw[Kk hi,j,h1,h2,h3,h4,h5];erw[O.get h2,x,Z,e2];refine⟨a,vs,i,x,1,1,SqT.of ha,?_,q x e2⟩;have ln:=O.length;unfold atI at hi⊢;rw [ln];cases e:ixN ds.length i with
 |none=>rw [e] at hi;cases hi
 |some k=>
  rw [e] at hi;erw[ixN_seq e,U,_];rw [h1] at U;cases U;exact Z
def inS (i j:Str):Bool:= !(GR j i 0 j.length 1).isEmpty
theorem inS_one (j:Str)(c:Nat):inS ⟨#[c]⟩ j=decide (c∈j.cps.toList):=StrLaws.found_one j c
theorem for_str {z:Str}{g:TG}{tb:TS}{E:Ends}{σ:St}{H:Hp}(O:Nat->St->Hp->Prop)(h0:O 0 σ H)
  (hs:∀(i c:Nat) σ H,z.cps[i]? =u_ c->O i σ H->g (.str ⟨#[c]⟩) σ H λZ H2=>tb {E with nx:=O (i+1),ct:=O (i+1),bk:=E.nx} Z H2) (hd:∀σ H,O z.cps.size σ H->E.nx σ H):
  ∃W:Nat->Nat->St->Hp->Prop,(∃m,W 0 m σ H)/\∀i m σ H,W i m σ H->
   ((Its z).stop i H/\E.nx σ H)∨((Its z).go i H/\∃N:St->Hp->Prop,(∀σ' H',N σ' H'->∃m',m'<m/\W (i+1) m' σ' H')/\∀x H',(Its z).yld i H x H'->g x σ H' λZ H2=>tb {E with nx:=N,ct:=N,bk:=E.nx} Z H2):=by
 exists λi m σ H=>m=z.cps.size-i/\i<=z.cps.size/\O i σ H,⟨z.cps.size,by simp,vf _,h0⟩
 rintro i m σ H ⟨rfl,hi,p⟩;by_cases U:i<z.cps.size
 ·refine .inr ⟨U,O (i+1),λσ' H' p'=>⟨z.cps.size-(i+1),(),1,U,p'⟩,λx H' y=> ?_⟩
  erw[y,rfl,c,hc,rfl];exact hs i c σ _ hc p
 ·have e:i=z.cps.size:=by omega
  exact .inl [e:hd σ H (e▸p)]
theorem IsL.unsnoc {H:Hp}:∀{ds:oj D}{d:D}{vs:oj V},IsL H (ds++ [d]) vs->∃us x,vs=us++ [x]/\IsL H ds us/\Is H d x
 | [],d,_,h=>by
  erw[h,v,r,rfl,h1,h2];cases(show r= [] from h2)
  exact⟨[],v,1,1,h1⟩
 |e::r,d,_,h=>by
  erw[h,v,q,rfl,h1,h2];erw[IsL.unsnoc h2,us,x,rfl,h3,h4];exact⟨v::us,x,1,⟨v,us,1,h1,h3⟩,h4⟩
def isStr:D->Bool
 | .str _=>v_
 |_=>V9
def X1:D->Bool
 | .tup _=>v_
 |_=>V9
section
variable {K:o0}
theorem kit_no {T U:String}{b:Bool}(h:(gS T==gS U)=V9)(hm:PySem.W.kitMeta U=v_)(O:(fastBuiltinMro T).map (·.contains (gS U))=u_ b):PySem.W.kitOne K (.type T) (.type U)=u_ b:=by
 unfold PySem.W.kitOne;rw [A2 (by rw [h];exact u5)]
 show(if PySem.W.kitMeta U=v_ then PySem.W.subIn K (.type T) (.type U) else U_)=u_ b
 rw [Aa hm];exact O
theorem kit_self {T:String}(h:(gS T==gS T)=v_):PySem.W.kitOne K (.type T) (.type T)=u_ true:=by
 unfold PySem.W.kitOne;rw [Aa h]
theorem jq (d:D):PySem.W.kitOne K (tyD d) (.type "str")=u_ (isStr d):=by
 cases d with
 |str z=>exact kit_self ()
 |_=>exact kit_no (b:=V9) () () ()
theorem xQ (d:D):PySem.W.kitOne K (tyD d) (.type "tuple")=u_ (X1 d):=by
 cases d with
 |tup z=>exact kit_self ()
 |_=>exact kit_no (b:=V9) () () ()
end
theorem lt_one (c k:Nat):decide ((⟨#[c]⟩:Str).cps.toList< [k])=decide (c<k):=by
 rw [uZ];simp [Rt]
theorem one_gt (c k:Nat):decide ([k]<(⟨#[c]⟩:Str).cps.toList)=decide (k<c):=by
 rw [uZ];simp [Rt]
theorem ix_tupK {X:Cx}{K:o0}(h:X.K=K):IxR X (rIxT K):=by subst h;exact qI
inductive IiTupB (K:PySem.W.Frag) (R:(It->Hp->Prop)) (x:V) (H1:Hp):Prop
 |mk (a:_) (xs:_) (_:x= .ref a) (_:SqT K H1 a xs) (_:(xs.length<=Vb->R (Itt K a) H1))
def iTupB (K:o0)(tl:TE):TI:=λσ H R=>tl σ H λx H1=>IiTupB K R x H1
theorem KC {X:Cx}{tg l:Expr}{tl:TE}(U:PE X l tl):PI X tg l (iTupB X.K tl):=by
 intro oq s σ H R I h;refine thn (U oq s σ H _ I h) λv s1 zq=> ?_;erw[zq,x,H1,O,Z,q1];erw[q1,a,xs,e,hq,q];subst e;cases Z;erw[O.tuple hq,its,rv,p,hz];refine tM (show s1.heap.IsTuple a its.toArray from p) ?_
 refine⟨s1.heap.objs.size,[s1.heap.objs.size],_,_,H1,1,O.kept (t':=s1.toks) λb o e=>ue _ e,ko a _,⟨_,uH _ rfl,1,1⟩,λb hb=> ?_,q hz⟩;have e:b=s1.heap.objs.size:=by simpa using hb
 subst e;exact O.fpOk (uj _) (O.hok.fresh (uj _))
variable {X:Cx}
theorem call_lenB:Y6 X (.builtin "len") (λxs H Q=>∃p ys,xs= [.ref p]/\(SqL X.K H p ys∨SqT X.K H p ys)/\(ys.length<=Vb->Q (.int ys.length) H)):=by
 intro oq s σ H xs us Q I r h;erw[h,p,ys,e,O,q];have U:ys.length<=sizeLine:=by
  rcases O with O|O
  ·exact(I.list O).choose_spec.2.2
  ·exact(I.tuple O).choose_spec.2.2
 exact qP oq s σ H xs us Q I r ⟨p,ys,e,O,q U⟩
variable {n:Nat}
theorem Wa (h:n<=xs.length):cutV xs (u_ (n:Int)) U_=xs.drop n:=by
 unfold cutV;rw [HT.sIx_none,HT.sIx_nat,Hy h];exact uT (by rw [vI];exact uj _)
end L2
namespace L2
open PySem PySem.Spec PyProof.Rows Builtin Builtin.Str
def posL (c:Nat):oj Nat->Nat->oj Nat
 | [],_=> []
 |a::r,i=>if a=c then i::posL c r (i+1) else posL c r (i+1)
def cutL (c:Nat):Nat->oj Nat->oj (oj Nat)
 |0,L=> [L]
 |_+1,[]=> [[]]
 |n+1,a::r=>if a=c then []::cutL c n r else match cutL c (n+1) r with
  |p::q=>(a::p)::q
  | []=> [[a]]
def ofL (l:oj Nat):Str:=⟨l.toArray⟩
theorem Q4 (z:Str):ofL z.cps.toList=z:=by
 unfold ofL;simp
theorem Jz (c:Nat):∀(n:Nat) (L:oj Nat),∃p q,cutL c n L=p::q
 |0,L=>⟨L,[],by simp [cutL]⟩
 |n+1,[]=>⟨[],[],by simp [cutL]⟩
 |n+1,a::r=>by
  by_cases h:a=c
  ·exact⟨[],cutL c n r,by simp [cutL,h]⟩
  ·erw[Jz c (n+1) r,p,q,e];exact⟨a::p,q,by simp [cutL,h,e]⟩
theorem cutL_app {c:Nat}{n:Nat}{r:oj Nat}:∀{p:oj Nat},c∉p->cutL c (n+1) (p++c::r)=p::cutL c n r
 | [],_=>by simp [cutL]
 |a::p,h=>by
  have h1:a≠c:=λe=>h (by simp [e])
  have O:=cutL_app (n:=n) (r:=r) (p:=p) (λz=>h (ud _ z));show cutL c (n+1) (a::(p++c::r))=_;rw [cutL,A2 h1,O]
theorem ZX {c:Nat}{n:Nat}:∀{p:oj Nat},c∉p->cutL c n p= [p]
 | [],_=>by cases n<;>simp [cutL]
 |a::p,h=>by
  have h1:a≠c:=λe=>h (by simp [e])
  cases n with
  |zero=>simp [cutL]
  |succ n=>
   have O:=ZX (n:=n+1) (p:=p) (λz=>h (ud _ z));rw [cutL,A2 h1,O]
theorem subAt_sign (x:Str)(c i:Nat)(h:i<x.length):subAt x ⟨#[c]⟩ i=decide (x.cps.toList[i]? =u_ c):=by
 rw [StrLaws.subAt_eq];have O:i<x.cps.toList.length:=by simpa [VQ] using h
 have U:(x.cps.toList.drop i).take 1= [x.cps.toList[i]]:=by
  rw [uY O]
  rfl
 show((x.cps.toList.drop i).take 1== [c])=_;rw [U,ur O];generalize x.cps.toList[i]=k;by_cases e:k=c
 ·simp [e]
 ·simp [e]
theorem occ_go (x:Str)(c n:Nat):∀(m k:Nat) (found:Array Nat) (free:Nat),k+m=x.length+1->free<=k->
  (VN (GG k m) (found,free) (gY x ⟨#[c]⟩ x.length n)).run.fst.toList=found.toList++(posL c (x.cps.toList.drop k) k).take (n-found.size)
 |0,k,found,free,hk,_=>by
  have hl:x.cps.toList.length<=k:=by simp [VQ] at hk⊢;omega
  rw [vL hl];simp [posL]
 |m+1,k,found,free,hk,hf=>by
  rw [List.range'_succ,Ux];unfold gY;have ac:x.cps.toList.length=x.length:=by simp [VQ]
  by_cases Z:k<x.length
  ·have aa:k<x.cps.toList.length:=by omega
   rw [uY aa];have hs:=subAt_sign x c k Z;rw [ur aa] at hs;by_cases e:x.cps.toList[k]=c
   ·have O:subAt x ⟨#[c]⟩ k=true:=by rw [hs,e];simp
    by_cases hn:found.size<n
    ·rw [Aa ⟨⟨[hn:hf],by show k+1<=x.length;omega⟩,O⟩]
     have U:=occ_go x c n m (k+1) (found.push k) (k+1) () (uj _)
     show(VN (GG (k+1) m) (found.push k,k+1) (gY x ⟨#[c]⟩ x.length n)).run.fst.toList=_;rw [U];rw [posL,Aa e,Array.toList_push,RP];obtain⟨j,hj⟩:∃j,n-found.size=j+1:=[n-found.size-1:()]
     rw [hj,UJ,show n-(found.size+1)=j by omega]
     simp
    ·rw [A2 (λz=>hn z.1.1.1)];have U:=occ_go x c n m (k+1) found free () ()
     show(VN (GG (k+1) m) (found,free) (gY x ⟨#[c]⟩ x.length n)).run.fst.toList=_;rw [U,show n-found.size=0 by omega]
     simp
   ·have O:¬subAt x ⟨#[c]⟩ k=true:=by rw [hs];intro z;exact e (uK (uA z))
    rw [A2 (λz=>O z.2)];have U:=occ_go x c n m (k+1) found free () ()
    show(VN (GG (k+1) m) (found,free) (gY x ⟨#[c]⟩ x.length n)).run.fst.toList=_;rw [U,posL,A2 e]
  ·rw [A2 (λz=>Z (by have:=z.1.2;show k<x.length;have h1:k+1<=x.length:=this;omega))]
   have U:=occ_go x c n m (k+1) found free () ()
   show(VN (GG (k+1) m) (found,free) (gY x ⟨#[c]⟩ x.length n)).run.fst.toList=_;rw [U];have h1:x.cps.toList.length<=k:=by omega
   rw [vL h1,vL ()]
   simp [posL]
theorem kO (x:Str)(c n:Nat):occurrences x ⟨#[c]⟩ 0 x.length n=(posL c x.cps.toList 0).take n:=by
 rw [RM];have:=occ_go x c n (x.length+1) 0 #[] 0 () (uj _)
 simpa using this
def att (p:oj Nat):oj (oj Nat)->oj (oj Nat)
 |q::r=>(p++q)::r
 | []=> [p]
theorem parts_go (x:Str)(c:Nat):∀(m n a b:Nat),a<=b->b+m=x.length->
  Hk x 1 a ((posL c (x.cps.toList.drop b) b).take n)=(att ((x.cps.toList.drop a).take (b-a)) (cutL c n (x.cps.toList.drop b))).map ofL:=by
 have ac:x.cps.toList.length=x.length:=by simp [VQ]
 have O:∀i j,strSub x i j=ofL ((x.cps.toList.drop i).take (j-i)):=λi j=>by
  rw [<-Q4 (strSub x i j),Rs]
 intro m
 induction m with
 |zero=>
  intro n a b aa hb;have h1:x.cps.toList.drop b= []:=vL ()
  rw [h1];have e1:cutL c n []= [[]]:=by cases n<;>simp [cutL]
  rw [e1];simp![posL,Ho,Hk,att,uW,ui,Uf];rw [O,show x.length-a=b-a by omega]
 |succ m ih=>
  intro n a b aa hb;have U:b<x.cps.toList.length:=by omega
  rw [uY U];cases n with
  |zero=>
   simp![Ru,Hk,cutL,att,ui,Uf];rw [O,<-uY U];have Z:(x.cps.toList.drop a).take (x.length-a)=x.cps.toList.drop a:=uT (by rw [vI];omega)
   have e3:x.cps.toList.drop b=(x.cps.toList.drop a).drop (b-a):=by rw [List.drop_drop];congr 1;omega
   rw [Z,e3,TJ]
  |succ n=>
   by_cases e:x.cps.toList[b]=c
   ·rw [posL,Aa e,UJ,Hk,cutL,Aa e];rw [ih n (b+1) (b+1) (uj _) ()]
    erw[Jz c n (x.cps.toList.drop (b+1)),p,q,Z];rw [Z,O];simp [att]
   ·rw [posL,A2 e,ih (n+1) a (b+1) () (),cutL,A2 e]
    erw[Jz c (n+1) (x.cps.toList.drop (b+1)),p,q,Z];rw [Z];simp![att,ui]
    congr 2
    have e3:b+1-a=(b-a)+1:=by omega
    have hx:b-a<(x.cps.toList.drop a).length:=by rw [vI];omega
    rw [e3,List.take_succ_eq_append_getElem hx];simp [show a+(b-a)=b by omega]
theorem parts_cut (x:Str)(c n:Nat):partsBetween x (occurrences x ⟨#[c]⟩ 0 x.length n) 1=(cutL c n x.cps.toList).map ofL:=by
 rw [StrLaws.partsBetween_eq,kO];have:=parts_go x c x.length n 0 0 (uj _) ()
 rw [V2] at this;rw [this];erw[Jz c n x.cps.toList,p,q,e];rw [e];simp [att]
theorem wc {c:Nat}:∀{L:oj Nat}{i:Nat},posL c L i= []->c∉L
 | [],_,_=>by simp
 |a::r,i,h=>by
  by_cases e:a=c
  ·simp [posL,e] at h
  ·rw [posL,A2 e] at h;have:=wc h;simp [UG e,this]
theorem Xf:∀(l:oj Str) (k:Nat),Vals (l.map V.str) (strsFrom k l)
 | [],_=> .nil
 |x::r,k=> .cons [k:1] (Xf r (k+1))
theorem Wh:∀{l:oj Str}{us:oj o6},Vals (l.map V.str) us->∃ps:oj (Str×Tok),us=strValues ps/\ps.map (·.1)=l
 | [],_,.nil=>[[]:1:1]
 |x::r,_,.cons ⟨t,e⟩ h=>by
  erw[Wh h,ps,O,U];subst e;exact⟨(x,t)::ps,by rw [O];rfl,by rw [ui,U]⟩
theorem WO (z:Str):¬Vw z<Vw " ":=by
 have h1:Vw " "=1:=by decide+kernel
 rw [h1];unfold Vw;split
 ·omega
 ·split<;>omega
theorem kZ (c:Nat):∀(n:Nat) (L:oj Nat),(cutL c n L).length<=L.length+1
 |0,L=>by simp [cutL]
 |n+1,[]=>by simp [cutL]
 |n+1,a::r=>by
  by_cases h:a=c
  ·have:=kZ c n r;simp [cutL,h];omega
  ·have:=kZ c (n+1) r;erw[Jz c (n+1) r,p,q,e];rw [e] at this;simp![cutL,A2 h,e];simp at this⊢;omega
def spl (n:Nat)(z:Str):oj Str:=(cutL 32 n z.cps.toList).map ofL
theorem spl_len (n:Nat)(z:Str):(spl n z).length<=z.length+1:=by
 unfold spl;rw [uc];have:=kZ 32 n z.cps.toList
 simpa [VQ] using this
theorem JE:(" ":Str)=⟨#[32]⟩:=by decide+kernel
variable {z:Str}{n:Nat}
theorem spl_one (hn:z.length<=n∨z.length<1∨True)(h:(occurrences z " " 0 z.length n).isEmpty=v_)(h0:n≠0):spl n z= [z]:=by
 rw [JE,kO,List.isEmpty_iff] at h;have h1:posL 32 z.cps.toList 0= []:=by
  cases e:posL 32 z.cps.toList 0 with
  |nil=>rfl
  |cons a r=>
   rw [e] at h;obtain⟨k,rfl⟩:∃k,n=k+1:=[n-1:()]
   simp at h
 unfold spl;rw [ZX (wc h1)];simp [Q4]
section
variable {X:Cx}
inductive rSplit (x:V) (vs:List V) (H:Hp) (Q:VK):Prop
 |mk (z:_) (_:x= .str z) (_:vs= [.str " "]) (_:z.length<=1000) (_:∀p,H p=U_->Q (.ref p) (upd H p (.lst ((spl (z.length+1) z).map V.str))))
variable {oq:oj (o3×Obj)}{σ:St}{H:Hp}{s:o7}{Q:VK}{ys:oj V}{its:oj o6}{t':Nat}
theorem JM (I:Inv X oq σ H s)(O:Vals ys its)(U:ys.length<=Vb)(q:∀p,H p=U_->Q (.ref p) (upd H p (.lst ys)))(Z:0<t':=by ac_rfl):
  EP X oq σ Q (.ref s.heap.objs.size) {s with heap:=s.heap.push {cls:= .type "list",data:= .seq its.toArray},toks:=t'}:=
 ⟨.ref s.heap.objs.size,_,I.lnew O U,1,q _ I.fresh⟩
theorem mt_split:MtM X "str.split" rSplit:=by
 intro oq s σ H x vs v us Q I Z rv h;erw[h,z,rfl,rfl,hz,q];erw[Z,t,rfl];erw[rv.one,u,rfl,t',rfl];have O:z.length<=sizeLine:=by rw [uF];omega
 have one:spl (z.length+1) z= [z]->∀(T:Nat),0<T->EP X oq σ Q (.ref s.heap.objs.size) {s with heap:=s.heap.push {cls:= .type "list",data:= .seq [Vy z t].toArray},toks:=T}:=λe T hT=>by
  rw [e] at q;exact JM (ys:= [V.str z]) I (.cons (show RelV (V.str z) _ from[t:1]) .nil) (by show 1<=Vb;decide) q
 cases h1:(decide (z.length<(" ":Str).length)||decide (Vw z<Vw " ")) with
 |true=>
  refine vn vJ (vT _ _ _) vC (U7 _ _) (Rv z " " t t' h1) ?_;have h2:z.length<1:=by
   rw [Hg] at h1;rcases h1 with h1|h1
   ·exact uA h1
   ·exact absurd (uA h1) (WO z)
  refine one ?_ s.toks I.tk;have e:z.cps.toList= []:=vg (by simpa [VQ] using h2)
  unfold spl;rw [e,cutL];rw [<-Q4 z,e]
  rfl
 |false=>
  cases U:(occurrences z " " 0 z.length (z.length+1)).isEmpty with
  |true=>
   refine vn vJ (vT _ _ _) vC (U7 _ _) (TF z " " t t' h1 () U) ?_
   exact one (spl_one (.inr (.inr trivial)) U ()) s.toks I.tk
  |false=>
   have hl:=spl_len (z.length+1) z;have e:partsBetween z (occurrences z " " 0 z.length (z.length+1)) (" ":Str).length=spl (z.length+1) z:=by
    rw [JE];exact parts_cut z 32 (z.length+1)
   refine vn vJ (vT _ _ _) vC (U7 _ _) (TD z " " t t' h1 () U O (by rw [e,uF];omega)) ?_
   rw [e];exact JM I (Xf _ _) (by rw [uc,uF];omega) q
theorem xZ (x y:Str)(k:Int)(t u v:Tok)(Z:(decide (k< -(2^63:Int))||decide (k≥2^63))=V9)(h1:(decide (x.length<y.length)||decide (Vw x<Vw y))=V9)(hy:(y.length==0)=V9)
  (hf:(occurrences x y 0 x.length (GN x k)).isEmpty=v_):G9 («str.split» [[.str x t,.str y u,.int k v]:[]]) (rX x t):=by
 erw[Fd x y k t u v Z,U,O];refine .of_wp λprog w A R s h=> ?_;rw [O,h1,hy,hf];show Va _ _ (do rule "str.split.same-object";ret (<-GY [.str x t])) _ _ s
 exact Ab (UX (Ab (tu (uE [0:h]) (by show 1<=Vb;decide))))
theorem jV (x y:Str)(k:Int)(t u v:Tok)(Z:(decide (k< -(2^63:Int))||decide (k≥2^63))=V9)(h1:(decide (x.length<y.length)||decide (Vw x<Vw y))=v_):
  G9 («str.split» [[.str x t,.str y u,.int k v]:[]]) (rX x t):=by
 erw[Fd x y k t u v Z,U,O];refine .of_wp λprog w A R s h=> ?_;rw [O,h1];show Va _ _ (do rule "str.split.sep-cannot-occur";ret (<-GY [.str x t])) _ _ s
 exact Ab (UX (Ab (tu (uE [0:h]) (by show 1<=Vb;decide))))
inductive rSplitN (x:V) (vs:List V) (H:Hp) (Q:VK):Prop
 |mk (z:Str) (n:Nat) (_:x= .str z) (_:vs= [.str " ",.int (n:Int)]) (_:z.length<=1000) (_:0<n) (_:n<=1000) (_:∀p,H p=U_->Q (.ref p) (upd H p (.lst ((spl n z).map V.str))))
theorem mt_splitN:MtM X "str.split" rSplitN:=by
 intro oq s σ H x vs v us Q I rx rv h;erw[h,z,n,rfl,rfl,hz,ac,hn,q];erw[rx,t,rfl];erw[vals2 rv,u,u',rfl,[t',rfl],[U,rfl]];have aa:z.length<=sizeLine:=by rw [uF];omega
 have hk:(decide ((n:Int)< -(2^63:Int))||decide ((n:Int)≥2^63))=false:=by
  rw [uh (),uh ()];rfl
 have O:GN z (n:Int)=n:=by
  unfold GN;rw [A2 ()]
  omega
 have one:spl n z= [z]->∀(T:Nat),0<T->EP X oq σ Q (.ref s.heap.objs.size) {s with heap:=s.heap.push {cls:= .type "list",data:= .seq [Vy z t].toArray},toks:=T}:=λe T hT=>by
  rw [e] at q;exact JM (ys:= [V.str z]) I (.cons (show RelV (V.str z) _ from[t:1]) .nil) (by show 1<=Vb;decide) q
 cases h1:(decide (z.length<(" ":Str).length)||decide (Vw z<Vw " ")) with
 |true=>
  refine vn vJ (vT _ _ _) vC (F.args_str_split_3 _ _ _) (jV z " " n t t' U hk h1) ?_;have h2:z.length<1:=by
   rw [Hg] at h1;rcases h1 with h1|h1
   ·exact uA h1
   ·exact absurd (uA h1) (WO z)
  refine one ?_ s.toks I.tk;have e:z.cps.toList= []:=vg (by simpa [VQ] using h2)
  obtain⟨j,rfl⟩:∃j,n=j+1:=[n-1:()]
  unfold spl;rw [e,cutL];rw [<-Q4 z,e]
  rfl
 |false=>
  cases Z:(occurrences z " " 0 z.length (GN z (n:Int))).isEmpty with
  |true=>
   refine vn vJ (vT _ _ _) vC (F.args_str_split_3 _ _ _) (xZ z " " n t t' U hk h1 () Z) ?_
   rw [O] at Z;exact one (spl_one (.inr (.inr trivial)) Z ()) s.toks I.tk
  |false=>
   have hl:=spl_len n z;have e:partsBetween z (occurrences z " " 0 z.length (GN z (n:Int))) (" ":Str).length=spl n z:=by
    rw [JE,O];exact parts_cut z 32 n
   refine vn vJ (vT _ _ _) vC (F.args_str_split_3 _ _ _) (meets_str_split_sep_max z " " n t t' U hk h1 () Z aa (by rw [e,uF];omega)) ?_
   rw [e];exact JM I (Xf _ _) (by rw [uc,uF];omega) q
def JS (c:Nat):oj Nat->oj Nat
 | []=> []
 |a::r=>if a=c then [] else a::JS c r
theorem headL_pos {c:Nat}:∀{L:oj Nat}{i j:Nat}{r:oj Nat},posL c L i=j::r->i<=j/\JS c L=L.take (j-i)
 | [],_,_,_,h=>by simp [posL] at h
 |a::q,i,j,r,h=>by
  by_cases e:a=c
  ·rw [posL,Aa e] at h;cases h;exact⟨uj _,by simp [JS,e]⟩
  ·rw [posL,A2 e] at h;erw[headL_pos h,h1,h2];exists ()
   rw [JS,A2 e,h2,show j-i=(j-(i+1))+1 by omega,UJ]
theorem XY {c:Nat}:∀{L:oj Nat},c∉L->JS c L=L
 | [],_=>rfl
 |a::r,h=>by
  have h1:a≠c:=λe=>h (by simp [e])
  rw [JS,A2 h1,XY λz=>h (ud _ z)]
def hd (z:Str):Str:=ofL (JS 32 z.cps.toList)
theorem fin_tup (I:Inv X oq σ H s)(O:Vals ys its)(U:ys.length<=Vb)(q:∀p,H p=U_->Q (.ref p) (upd H p (.tup ys)))(Z:0<t':=by ac_rfl):
  EP X oq σ Q (.ref s.heap.objs.size) {s with heap:=s.heap.push {cls:= .type "tuple",data:= .seq its.toArray},toks:=t'}:=
 ⟨.ref s.heap.objs.size,_,I.laid (o:= .tup ys) (λ_ _ w=>ue _ w) (uj _) ⟨U,its,O,Gh _ _⟩,1,q _ I.fresh⟩
inductive rPart (x:V) (vs:List V) (H:Hp) (Q:VK):Prop
 |mk (z:_) (_:x= .str z) (_:vs= [.str " "]) (_:z.length<=1000) (_:∀p a b,H p=U_->Q (.ref p) (upd H p (.tup [.str (hd z),.str a,.str b])))
theorem mt_part:MtM X "str.partition" rPart:=by
 intro oq s σ H x vs v us Q I rx rv h;erw[h,z,rfl,rfl,hz,q];erw[rx,t,rfl];erw[rv.one,u,rfl,t',rfl];have U:z.length<=sizeLine:=by rw [uF];omega
 refine vn F.slot_str_partition (vT _ _ _) F.entry_str_partition (F.args_str_partition_2 _ _) (meets_str_partition z " " t t' () U) ?_
 cases O:occurrences z " " 0 z.length 1 with
 |nil=>
  have h0:hd z=z:=by
   rw [JE,kO] at O;have h1:posL 32 z.cps.toList 0= []:=by
    cases e:posL 32 z.cps.toList 0 with
    |nil=>rfl
    |cons a r=>rw [e] at O;simp at O
   unfold hd;rw [XY (wc h1),Q4]
  refine fin_tup (ys:= [.str (hd z),.str Ta,.str Ta]) (t':=s.toks+1) I (.cons (show RelV (V.str (hd z)) _ from⟨t,by rw [h0]⟩) (.cons (show RelV (V.str _) _ from⟨0⟩) (.cons (show RelV (V.str _) _ from⟨0⟩) .nil))) (by show 3<=Vb;decide) λp Z=>q p _ _ Z
 |cons i r=>
  have h0:hd z=strSub z 0 i:=by
   rw [JE,kO] at O;cases e:posL 32 z.cps.toList 0 with
   |nil=>rw [e] at O;simp at O
   |cons a r'=>
    rw [e] at O;have:a=i:=by simp at O;exact O.1
    subst this;erw[headL_pos e,_,h2];unfold hd;rw [h2,<-Q4 (strSub z 0 a),Rs,V2]
  refine fin_tup (ys:= [.str (hd z),.str " ",.str _]) (t':=s.toks+1+1) I (.cons (show RelV (V.str (hd z)) _ from⟨s.toks,by rw [h0]⟩) (.cons (show RelV (V.str _) _ from[t':1]) (.cons (show RelV (V.str _) _ from[s.toks+1:1]) .nil))) (by show 3<=Vb;decide) λp Z=>q p _ _ Z
inductive rJoin (K:PySem.W.Frag) (x:V) (vs:List V) (H:Hp) (Q:VK):Prop
 |mk (sep:Str) (p:Addr) (l:List Str) (_:x= .str sep) (_:vs= [.ref p]) (_:SqL K H p (l.map V.str)) (_:(l.map (·.length)).sum+l.length*sep.length<=1000000) (_:Q (.str (Vi sep l)) H)
theorem Kf:MtM X "str.join" (rJoin X.K):=by
 intro oq s σ H x vs v us Q I rx rv h;erw[h,sep,p,l,rfl,rfl,hp,hz,q];erw[rx,t,rfl];erw[rv.one,u,rfl,ru];cases ru;erw[I.list hp,its,r,pl,hl];erw[Wh r,ps,rfl,Z];have U:tooLong ((ps.map (·.1)).toArray.foldl (·+ ·.length+sep.length) 0)=false:=by
  rw [Z];have:=rf sep l;rw [this];unfold tooLong;refine uh ?_;rw [uF];omega
 refine vn F.slot_str_join (vT _ _ _) F.entry_str_join (F.args_str_join_2 _ _) (meets_str_join_list sep t p ps U) [pl.isList:?_];have O:(glued sep (ps.map (·.1))).length<=sizeLine:=Rf U
 match ps,Z,O with
 | [],Z,O=>
  subst Z;exact⟨O,.str _,H,I.tok _,⟨0⟩,q⟩
 | [a],Z,_=>
  subst Z;exact⟨.str _,H,I,[a.2:1],q⟩
 |a::b::r,Z,O=>
  subst Z;exists O,.str _,H,I.tok _,⟨0⟩;rw [TR];exact q
theorem call_intS:Y6 X (.type "int") (λxs H Q=>∃z n,xs= [.str z]/\PySem.intText? z=u_ n/\z.length<=640/\Q (.int n) H):=by
 intro oq s σ H xs us Q I r h;erw[h,z,n,rfl,hn,O,q];erw[JR r,u,rfl,t,rfl];exact PySem.W.KIN.call_text hn O ⟨.int n,H,I.tok _,⟨0⟩,q⟩
end
end L2
namespace L2
open PySem PySem.Spec PyProof.Rows
variable {X:Cx}{oq:oj (o3×Obj)}{σ:St}{H:Hp}{s:o7}{h':o8}{t':Nat}{fp:oj o3}
theorem Inv.turnedL (I:Inv X oq σ H s)(k:∀b o,b∉fp->s.heap.get? b=u_ o->h'.get? b=u_ o)(U:∀b∈fp,FpOk X oq H b)(ht:0<t':=by ac_rfl):Inv X oq σ H {s with heap:=h',toks:=t'}:=by
 have Z:∀b u,H b=u_ u->b∉fp:=λb u e z=>by
  have:=(U b z).1;rw [this] at e;cases e
 have nL:X.env.locals∉fp:=λz=>(U _ z).2.1 rfl;refine I.step (g':=s.gens) (d':=s.drawn) (ch:=fp) (λb hb=>⟨(U b hb).2.2.2.1,(U b hb).2.1,(U b hb).2.2.2.2.1,(U b hb).2.2.2.2.2⟩) (λb o _ _ O e _=>k b o O e) (λb o _ _ O e _=>[o.slots:k b o O e]) (λ_ _ _ _ n=>n)
  (λb o O e=>[o:k b o O e]) (λ_ _ e=>e) (λ_ _ _ e=>e) (λb ps e=>⟨#[],by rw [e];simp⟩) (λm hm=> ?_) (λb u e=> ?_) I.bare
 ·erw[hm,o,es,ep,ho,r];exact⟨o,es,ep,k _ o nL ho,r⟩
 ·refine(I.hok b u e).stay (λc v O q=>k c v ?_ q) (λ_ q=>q) λ_ _ q=>q;rcases O with z|z
  ·rw [z];exact Z b u e
  ·exact Z c _ z
theorem Inv.handed {X:Cx}{oq:oj (o3×Obj)}{σ:St}{H:Hp}{s:o7}{h':o8}{t':Nat}{fp:oj o3}{ys:oj V}{its:oj o6}(I:Inv X oq σ H s)(Z:∀b∈fp,FpOk X oq H b)(hl:∀b∈fp,b<s.heap.objs.size)(hv:Vals ys its)(hz:ys.length<=Vb)
  (hn:h'.get? s.heap.objs.size=u_ {cls:= .type "tuple",data:= .seq its.toArray}) (hs:h'.objs.size=s.heap.objs.size+1) (k:∀b o,b∉fp->s.heap.get? b=u_ o->h'.get? b=u_ o) (ht:0<t':=by ac_rfl):
  Inv X oq σ (upd H s.heap.objs.size (.tup ys)) {s with heap:=h',toks:=t'}/\∀b∈fp,FpOk X oq (upd H s.heap.objs.size (.tup ys)) b:=by
 have I1:Inv X oq σ (upd H s.heap.objs.size (.tup ys)) {s with heap:=s.heap.push {cls:= .type "tuple",data:= .seq its.toArray},toks:=t'}:=
  I.laid (o:= .tup ys) (λ_ _ w=>ue _ w) (uj _) ⟨hz,its,hv,Gh _ _⟩
 have O:∀b∈fp,FpOk X oq (upd H s.heap.objs.size (.tup ys)) b:=λb U=>by
  erw[Z b U,f0,f1,f2,f3,f4,f5];have:=hl b U;exact⟨by rwa [qh (uS this)],f1,f2,f3,f4,f5⟩
 refine[I1.turnedL (h':=h') (t':=t') (λb o U e=> ?_) O:O];rcases Heap.get?_push_cases (show(s.heap.push {cls:= .type "tuple",data:= .seq its.toArray}).get? b=u_ o from e) with⟨rfl,rfl⟩|e'
 ·exact hn
 ·exact k b o U e'
def Itz (K:o0)(a b:o3):It:=
 ⟨λi H=>∃xs ys x y,SqT K H a xs/\SqL K H b ys/\xs[i]? =u_ x/\ys[i]? =u_ y,
  λi H v H'=>∃p x y,v= .ref p/\H p=U_/\H'=upd H p (.tup [x,y])/\(∀xs,SqT K H a xs->xs[i]? =u_ x)/\∀ys,SqL K H b ys->ys[i]? =u_ y,
  λi H=>∃xs,SqT K H a xs/\xs.length=i⟩
def tnZ (a b z p r i j:o3)(k:Nat)(h:o8):Prop:=
 VB h z p r .none/\Vp h p (.ref i) (.ref j)/\(∃u v,Vp h r u v)/\h.IsTupleIter i a k/\h.IsListIter j b k/\AwZ.Apt z p r i j a b
variable {w:og}{K:o0}
theorem turn_zip {P:o9}{aa:oj Expr}{c:Nat}{tp:Pos}(a b z p r i j:o3):Turn P w K (.Tuple aa c tp) (Itz K a b) [z,p,r,i,j] z (tnZ a b z p r i j) where
 mem:=by simp
 obj:=λk h st x hx=>by
  erw[st,h1,h2,[u,v,h3],[o4,e4,c4,d4],[o5,e5,c5,d5],D];simp![uC,vm,uO] at hx;rcases hx with rfl|rfl|rfl|rfl|rfl
  ·exact⟨_,h1,λv z=>by cases z⟩
  ·exact⟨_,h2,λv z=>by cases z⟩
  ·exact⟨_,h3,λv z=>by cases z⟩
  ·exact⟨o4,e4,λv z=>by rw [d4] at z;cases z⟩
  ·exact⟨o5,e5,λv z=>by rw [d5] at z;cases z⟩
 keep:=λk h h' st kk=>by
  erw[st,h1,h2,[u,v,h3],[o4,e4,r4],[o5,e5,r5],D];exact⟨kk z (by simp) _ h1,kk p (by simp) _ h2,⟨u,v,kk r (by simp) _ h3⟩,⟨o4,kk i (by simp) _ e4,r4⟩,⟨o5,kk j (by simp) _ e5,r5⟩,D⟩
 item:=by
  intro X hP hw hK O k oq s σ H E I hf st hg;subst hP hw hK;erw[hg,xs,ys,x,y,ha,hb,hx,hy];erw[I.tuple ha,its,ra,pa,za];erw[I.list hb,ak,rb,pb,zb];erw[ra.get hx,ux,ae,af];erw[rb.get hy,uy,ag,ah];erw[st,h1,h2,[u,v,h3],h4,h5,D];have l1:=uG h1;have l2:=uG h2;have l3:=uG h3;have l4:i<s.heap.objs.size:=by erw[h4,o,e,_];exact uG e
  have l5:j<s.heap.objs.size:=by erw[h5,o,e,_];exact uG e
  refine AwZ.zip_go D h1 h2 h3 h4 h5 (show s.heap.IsTuple a its.toArray from pa) pb.isList (x:=ux) (y:=uy) (by simpa using ae) (by simpa using ag) λh' g1 g2 g3 g4 g5 g6 g7=> ?_
  have g8:Vp h' p (.ref i) (.ref j):=g7 _ _ D.pz D.pr D.pi D.pj h2;obtain⟨I1,ac⟩:=I.handed (t':=s.toks) (ys:= [x,y]) (its:= [ux,uy]) hf (λc O=>by
   simp![uC,vm,uO] at O;rcases O with rfl|rfl|rfl|rfl|rfl<;>assumption) (.cons af (.cons ah .nil)) (by show 2<=Vb;decide) g5 g6 (λc o O e=>by
    simp![uC,vm,uO,V3] at O;exact g7 c o O.1 O.2.2.1 O.2.2.2.1 O.2.2.2.2 e)
  refine[0:wpAny_letOwnedTupleGo_zip (s:={s with heap:=h'}) g1 λad z2 s2=> ?_]
  have U:∀c o,c≠z->h'.get? c=u_ o->ad.get? c=u_ o:=λc o O e=>s2.extBut c o O e;refine⟨.ref s.heap.objs.size,_,I1.turnedL (fp:= [z]) (h':=ad) (t':=s.toks) (λc o O e=>U c o (by simpa using O) e) (λc O=>ac c (by simp at O;simp [O])),1,⟨_,x,y,1,I.fresh,1,λzs Z=> ?_,λzs Z=> ?_⟩,⟨z2,U _ _ D.pz g8,[_:_:U _ _ D.rz g2],?_,?_,D⟩,λc O=>(ac c O).1⟩
  ·rwa [I.tuple_inj Z ha]
  ·rwa [I.list_inj Z hb]
  ·erw[g3,o,e,q];exact[o:U _ _ D.iz e:q]
  ·erw[g4,o,e,q];exact[o:U _ _ D.jz e:q]
 done:=by
  intro X hP hw hK O k oq s σ H E I hf st hg;subst hP hw hK;erw[hg,xs,ha,hx];erw[I.tuple ha,its,ra,pa,za];have hl:=ra.length;erw[st,h1,h2,[u,v,h3],h4,h5,D];refine AwZ.zip_stop (A:=X.A) (I.ok.hd O) D h1 h2 h4 (show s.heap.IsTuple a its.toArray from pa) (by simp;omega) λh' kk=>[1:?_]
  exact I.turnedL (t':=s.toks) (λc o O e=>by
   simp![uC,vm,uO,V3] at O;exact kk c o O.1 O.2.2.1 O.2.2.2.1 O.2.2.2.2 e) hf
 self:=λ_ _ _ _ _ st h=>rY st.1 h
section
variable {X:Cx}
variable {n:Nat}
theorem apt_mk {a b:Nat}(ha:a<n)(O:b<n):AwZ.Apt (n+4) (n+2) (n+3) n (n+1) a b:=by
 constructor<;>exact(show _≠((_:Nat)) by omega)
theorem five_le {x:Nat}(h:x=n+4∨x=n+2∨x=n+3∨x=n∨x=n+1):n<=x:=by omega
def iZip (K:o0)(ta:TA):TI:=λσ H R=>ta σ H λvs H1=>∃a b xs ys,vs= [.ref a,.ref b]/\SqT K H1 a xs/\SqL K H1 b ys/\R (Itz K a b) H1
theorem pi_zip {U:oj Expr}{c:Nat}{tp p pos:Pos}{e1 O:Expr}{ta:TA}(hg:Gl X "zip")(hm:X.mg "zip"=U_)(ha:PA X [e1,O] ta)(hs:Ve [e1,O] X.env= [(V9,eval e1 X.env),(V9,eval O X.env)])(Z:Ve [O] X.env= [(V9,eval O X.env)]):
  PI X (.Tuple U c tp) (.Call (.Name "zip" p) [e1,O] [] pos) (iZip X.K ta):=by
 intro oq s σ H R I h;refine Call_ (wy I hg hm boot_zip (vE (thn (ha pos oq s σ H _ I h) λus s1 zq=> ?_) (by rw [hs,Z]) (by rw [Z];rfl)));erw[zq,vs,H1,I1,r1,q1]
 erw[q1,a,b,xs,ys,e,hA,hB,q];subst e;erw[vals2 r1,u,u',rfl,ru,ac];cases ru;cases ac;erw[I1.tuple hA,its,ra,pa,za];erw[I1.list hB,ad,rb,pb,zb];have la:a<s1.heap.objs.size:=by erw[id pa,o,e,_];exact uG e
 have lb:b<s1.heap.objs.size:=by erw[id pb,o,n,e,_];exact uG e
 refine AwZ.zip_call (show s1.heap.IsTuple a its.toArray from pa) pb.isList λh2 g1 g2 g3 g4 g5 g6 g7=> ?_
 refine rY (s:={s1 with heap:=h2}) g1 ?_
 refine⟨_,[s1.heap.objs.size+4,s1.heap.objs.size+2,s1.heap.objs.size+3,s1.heap.objs.size,s1.heap.objs.size+1],_,_,H1,1,I1.kept (t':=s1.toks) g7,turn_zip a b _ _ _ _ _,⟨g1,g2,[_:_:g3],g4,g5,?_⟩,λx hx=> ?_,q⟩
 ·exact apt_mk la lb
 ·have aa:s1.heap.objs.size<=x:=by
   simp![uC,vm,uO] at hx;exact five_le hx
  exact I1.fpOk aa (I1.hok.fresh aa)
def KDict (K:o0)(w:og)(a:o3):Prop:=(a==Vu)=V9/\∃es n,K.lookup a=u_ ⟨.type "dict",U_,.dict es n,#[]⟩/\PySem.W.KeysLit w.params es.toList
inductive rNotK (K:PySem.W.Frag) (w:World) (x:V) (y:V) (H:Hp) (Q:VK):Prop
 |mk (z:_) (a:_) (r:_) (_:x= .str z) (_:y= .ref a) (_:KDict K w a) (_:PySem.W.nsIn K a z=u_ r) (_:Q (.bl (!r.isSome)) H)
theorem op_notK:OpR X (Vm .NotIn) (rNotK X.K X.w):=by
 intro oq s σ H x y v u Q I U Z h;erw[h,z,a,r,rfl,rfl,[hs,es,n,O,hk],hn,q];erw[U,t,rfl];cases Z;have hm:=PySem.W.mapOf_K (prog:=X.prog) (w:=X.w) I.kIn O hk;refine RE (HR X.prog X.w z t) hs hm ⟨.bl (!r.isSome),H,I.tok _,?_,q⟩;rw [PySem.W.find_K O hn]
 rfl
inductive rIxK (K:PySem.W.Frag) (w:World) (x:V) (y:V) (H:Hp) (Q:VK):Prop
 |mk (z:_) (a:_) (u:_) (v:_) (_:x= .ref a) (_:y= .str z) (_:KDict K w a) (_:PySem.W.nsIn K a z=u_ (u_ u)) (_:RelV v u) (_:Q v H)
theorem ix_K:IxR X (rIxK X.K X.w):=by
 intro value slice oq s σ H x y v u Q I U Z h hs;erw[h,z,a,u',v',rfl,rfl,[_,es,n,O,hk],hn,hr,q];erw[Z,t,rfl];cases U;have hm:=PySem.W.mapOf_K (prog:=X.prog) (w:=X.w) I.kIn O hk;exact HE hm.typeIs slot_dict_getitem.lookup (rg (HR X.prog X.w z t) hm (PySem.W.find_K O hn) ⟨v',H,I.tok _,hr,q⟩) hs
end
section
variable {X:Cx}{K:o0}
theorem pg_tupK {es:oj Expr}{k:Nat}{t:TGs}{n:Nat}{pos:Pos}(U:X.K=K)(Z:X.calm=v_)(h:PGs X es t)
  (hn:(VV es X.env).length=n) (O:(VV es X.env).findIdx? (·.1)=U_):PG X (.Tuple es k pos) (gTup K n t):=by subst U;exact pg_tup Z h hn O
end
theorem XG {lo:Int}{n:Nat}{L:o3}{H1:Hp}{te:TE}{tl:St}{Q:VK}(C:Nat->oj V->Hp->Prop)(hn:n<=Vb)(h0:C 0 [] (upd H1 L (.lst [])))
  (Z:∀i ys H,i<n->C i ys H->H L=u_ (.lst ys)->ys.length<=i->∀R:VK,(∀y H4,H4 L=u_ (.lst ys)->C (i+1) (ys++ [y]) (upd H4 L (.lst (ys++ [y])))->R y H4)->te (u_ (.int (lo+(i:Int)))::tl) H R)
  (hQ:∀ys H,C n ys H->H L=u_ (.lst ys)->Q (.ref L) H):lcGo L (Itr lo n) (Jv 0) tYes te (U_::tl) H1 Q:=by
 refine⟨n,λi σ ys H=>(∃x,σ=x::tl)/\C i ys H,hn,[[U_:1]:h0],?_,?_⟩
 ·rintro i σ ys H hi ⟨⟨x,rfl⟩,O⟩ U hy;exists hi;rintro x' H' ⟨rfl,rfl⟩;dsimp![Jv,tYes,GL];rw [Aa rfl];exact Z i ys H' hi O U hy _ λy H4 e c=>[e:⟨0⟩:c]
 ·rintro σ ys H ⟨_,O⟩ U;exact[uj _:hQ ys H O U]
theorem lc_zip {K:o0}{a b A:o3}{H1:Hp}{te:TE}{tl:St}{Q:VK}{xs ys:oj V}(f:Nat->D)(ha:∀H,Same H1 H->SqT K H a xs)(hb:∀H,Same H1 H->SqL K H b ys)(ac:xs.length=ys.length)(hn:xs.length<=Vb)(hA:H1 A=U_)
  (Z:∀i x y H (R:VK),xs[i]? =u_ x->ys[i]? =u_ y->Same H1 H->(∀v H',Same H H'->Is H' (f i) v->R v H')->te (u_ x::u_ y::tl) H R)
  (hQ:∀H' vs,Same H1 H'->H' A=u_ (.lst vs)->L2.IsL H' ((Vh xs.length).map f) vs->Q (.ref A) H'):lcGo A (Itz K a b) (gTup K 2 (gCons (Jv 0) (gCons (Jv 1) gNil))) tYes te (U_::U_::tl) H1 Q:=by
 refine⟨xs.length,λi σ us H=>(∃u v,σ=u::v::tl)/\L2.IsL H ((Vh i).map f) us/\Same H1 H,hn,[[U_:U_:1]:1:qf hA _],?_,?_⟩
 ·rintro i σ us H hi ⟨⟨u,v,rfl⟩,hl,sm⟩ O ad;have hx:xs[i]? =u_ xs[i]:=ur hi;have hy:ys[i]? =u_ (ys[i]'()):=ur _
  refine[⟨xs,ys,_,_,ha H sm,hb H sm,hx,hy⟩:λx H' y=> ?_];erw[y,p,x',y',rfl,hp,rfl,e1,e2];have e1:=e1 xs (ha H sm);have e2:=e2 ys (hb H sm);have s2:Same H (upd H p (.tup [x',y'])):=qf hp _;exists p,0,SqT.of qg,1,x',0,y',0,1;dsimp![tYes];rw [Aa rfl];refine Z i x' y' _ _ e1 e2 (sm.trans s2) λy4 H4 U aa=>⟨U _ _ (s2 _ _ O),[_:0],?_,λb o e=> ?_⟩
  ·have t:Tk H4 (upd H4 A (.lst (us++ [y4]))):=Tk.updL (U _ _ (s2 _ _ O));rw [Hu,uu];exact((hl.mono (s2.trans U).tk).mono t).append (IsL.one (aa.mono t))
  ·rw [qh (ql e hA)];exact U b o (s2 b o (sm b o e))
 ·rintro σ us H ⟨_,hl,sm⟩ O;exact[[xs:ha H sm:1]:hQ H us sm O hl]
theorem xB (z:Str)(l:oj Str):inV (.str z) (l.map V.str)=decide (z∈l):=by
 unfold inV;rw [HD,vR,tS,vj];constructor
 ·rintro⟨x,U,e⟩;have O:(x==z)=true:=e;rw [beq_iff_eq] at O;exact O▸U
 ·intro h;exact⟨z,h,by show(z==z)=v_;exact beq_self_eq_true z⟩
theorem wA (l:oj Str):(l.map V.str).all Zw=true:=by
 rw [UM,U4];intro x _
 rfl
inductive Pt where
 |s (z:Str)|n (i:Int)
def Pt.d:Pt->D
 | .s z=> .str z
 | .n i=> .int i
def Pt.t:Pt->Str
 | .s z=>z
 | .n i=>Vk i
inductive Kd where
 |box|line|words
 deriving DecidableEq
def Kd.t:Kd->Str
 | .box=>"box"
 | .line=>"line"
 | .words=>"words"
def BX:oj Str:= ["a","b","c","d","e","f","g","h"]
def FRM:oj (Str×oj Kd):= [("text",[.box,.words]),("self",[.box]),("copy",[.box,.box]),("row",[.box]),("put",[.box,.box]),("join",[.box,.box]),("first",[.box,.box]),("rest",[.box,.box]),
 ("size",[.box,.box]),("cut",[.box,.box,.box]),("glue",[.box,.box,.box]),("ask",[.box,.box]),("has",[.box,.box]),("names",[.box,.box]),("go",[.line]),("like",[.box,.box,.line]),
 ("rowed",[.box,.line]),("none",[.box,.line]),("say",[.box]),("fault",[])]
def ptOk (n m:Nat):Kd->Pt->Prop
 | .box,.s z=>z∈BX
 | .line,.n i=>1<=i/\i<=n
 | .words,.s z=>z.length<=m/\z.cps.toList.all QD=v_
 |_,_=>False
def xR (n m:Nat):oj Kd->oj Pt->Prop
 | [],[]=>True
 |k::ks,p::ps=>ptOk n m k p/\xR n m ks ps
 |_,_=>False
abbrev Rw:=Str×oj Pt
def jS (n m:Nat)(r:Rw):Prop:=∃ks,(r.1,ks)∈FRM/\xR n m ks r.2
def txs (r:Rw):oj Str:=r.1::r.2.map Pt.t
def Ya (r:Rw):Str:=Vi " " (txs r)
def rowD (r:Rw):D:= .tup [.str r.1,.tup (r.2.map Pt.d)]
theorem Jn:∀(x y:Str) (r:oj Str),(Vi " " (x::y::r)).cps.toList=x.cps.toList++32::(Vi " " (y::r)).cps.toList:=by
 intro x y r;show((x.cps++(" ":Str).cps)++(Vi " " (y::r)).cps).toList=_;rw [tE,tE,JE];simp
abbrev Free (z:Str):Prop:=32∉z.cps.toList
theorem Ky:∀(l:oj Str) (z:Str) (n:Nat),(∀p∈l,Free p)->(n=0∨Free z)->spl (l.length+n) (Vi " " (l++ [z]))=l++ [z]
 | [],z,n,_,hz=>by
  show spl (0+n) z= [z];rw [GW];unfold spl;rcases hz with rfl|hz
  ·rw [cutL];show [ofL z.cps.toList]= [z];rw [Q4]
  ·rw [ZX hz];show [ofL z.cps.toList]= [z];rw [Q4]
 |p::l,z,n,hl,hz=>by
  have O:=Ky l z n (λq U=>hl q (ud _ U)) hz;have Z:Free p:=hl p ug;obtain⟨y,r,e⟩:∃y r,l++ [z]=y::r:=by cases l<;>exact[_:0]
  show spl ((l.length+1)+n) (Vi " " (p::(l++ [z])))=p::(l++ [z]);rw [e] at O⊢;unfold spl at O⊢;rw [Jn,show l.length+1+n=(l.length+n)+1 by omega,cutL_app Z,ui,O,Q4]
theorem hd_join (w:Str)(r:oj Str)(h:Free w):hd (Vi " " (w::r))=w:=by
 have O:∀(p q:oj Nat),32∉p->JS 32 (p++32::q)=p:=by
  intro p
  induction p with
  |nil=>intro q _;simp [JS]
  |cons a p U=>
   intro q h;have h1:a≠32:=λe=>h (by simp [e])
   show JS 32 (a::(p++32::q))=a::p;rw [JS,A2 h1,U q λz=>h (ud _ z)]
 cases r with
 |nil=>
  show ofL (JS 32 w.cps.toList)=w;rw [XY h,Q4]
 |cons y r=>
  unfold hd;rw [Jn,O _ _ h,Q4]
theorem join_len:∀(l:oj Str),l≠ []->(Vi " " l).length+1=(l.map (·.length)).sum+l.length
 | [],h=>absurd rfl h
 | [x],_=>by simp [Vi]
 |x::y::r,_=>by
  have O:=join_len (y::r) (by simp)
  have e:(Vi " " (x::y::r)).length=x.length+(1+(Vi " " (y::r)).length):=by
   have:=congrArg VT (Jn x y r);rw [uB,um] at this;simp![vo] at this;show(Vi " " (x::y::r)).cps.size=_;rw [this];show x.cps.size+((Vi " " (y::r)).cps.size+1)=x.cps.size+(1+(Vi " " (y::r)).cps.size);omega
  rw [e,ui,UF,um];omega
variable {i:Int}
theorem num_small (h1:1<=i)(h2:i<=40):(Vk i:Str).length<=2/\Free (Vk i:Str)/\(Vk i:Str).cps.toList.all QD=true:=by
 obtain⟨k,rfl⟩:∃k:Fin 41,i=((k.val:Nat):Int):=⟨[i.toNat:()],by simp;omega⟩
 have O:∀k:Fin 41,(Vk ((k.val:Nat):Int):Str).length<=2/\decide (Free (Vk ((k.val:Nat):Int):Str))=v_/\(Vk ((k.val:Nat):Int):Str).cps.toList.all QD=true:=by decide+kernel
 erw[O k,a,b,c];exact[a:uA b:c]
theorem KJ (h1:1<=i)(h2:i<=40):PySem.intText? (Vk i:Str)=u_ i:=PySem.W.KIN.num_reads () ()
variable {z:Str}
theorem box_ok (h:z∈BX):z.length=1/\Free z/\z.cps.toList.all QD=true:=by
 have O:∀z∈BX,z.length=1/\decide (Free z)=v_/\z.cps.toList.all QD=true:=by decide+kernel
 erw[O z h,a,b,c];exact[a:uA b:c]
theorem word_ok:∀x∈FRM,decide (Free x.1)=v_/\x.1.cps.toList.all QD=true:=by decide+kernel
theorem form_ok:∀x∈FRM,(decide (Kd.words∈x.2)=V9)∨x=(("text":Str),[Kd.box,Kd.words]):=by decide+kernel
theorem form_nd:∀x∈FRM,∀y∈FRM,x.1=y.1->x=y:=by decide+kernel
variable {n:Nat}
theorem ptOk_free {m:Nat}(hn:n<=40){k:Kd}{p:Pt}(h:ptOk n m k p)(O:k≠ .words):Free p.t:=by
 cases k<;>cases p<;>simp![ptOk] at h
 ·exact(box_ok h).2.1
 ·exact(num_small h.1 ()).2.1
 ·exact absurd rfl O
theorem Za {n m:Nat}:∀{ks:oj Kd}{ps:oj Pt},xR n m ks ps->ps.length=ks.length
 | [],[],_=>rfl
 |_::_,_::_,h=>by rw [um,um,Za h.2]
 | [],_::_,h=>h.elim
 |_::_,[],h=>h.elim
theorem ku {n m:Nat}(hn:n<=40):∀{ks:oj Kd}{ps:oj Pt},xR n m ks ps->Kd.words∉ks->∀p∈ps.map Pt.t,Free p
 | [],[],_,_=>λp O=>by simp at O
 |_::_,_::_,h,hk=>λp O=>by
  rw [ui] at O;rcases Ac.mp O with rfl|O
  ·exact ptOk_free hn h.1 λe=>hk (by simp [e])
  ·exact ku hn h.2 (λz=>hk (ud _ z)) p O
 | [],_::_,h,_=>h.elim
 |_::_,[],h,_=>h.elim
variable {r:Rw}
theorem line_hd {m:Nat}(h:jS n m r):hd (Ya r)=r.1:=by
 erw[h,ks,O,U];exact hd_join _ _ (uA (word_ok _ O).1)
variable {ks:oj Kd}
theorem line_spl {m:Nat}(hn:n<=40)(hk:(r.1,ks)∈FRM)(Z:xR n m ks r.2):spl (if Kd.words∈ks then ks.length else(Ya r).length+1) (Ya r)=txs r:=by
 have hw:Free r.1:=uA (word_ok _ hk).1;by_cases h:Kd.words∈ks
 ·rw [Aa h];rcases form_ok _ hk with e|e
  ·simp at e;exact absurd h e
  ·have e1:ks= [.box,.words]:=congrArg Prod.snd e;subst e1;erw[r,w,ps]
   match ps,Z with
   | [p,q],Z=>
    have:=Ky [w,p.t] q.t 0 (λz hz=>by
     simp![uC,vm,uO] at hz;rcases hz with rfl|rfl
     ·exact hw
     ·exact ptOk_free hn Z.1 ()) (.inl rfl)
    exact this
 ·rw [A2 h];have hf:∀p∈txs r,Free p:=λp U=>by
   rcases Ac.mp U with rfl|U
   ·exact hw
   ·exact ku hn Z h p U
  rcases TC (txs r) with e|⟨l,z,e⟩
  ·simp [txs] at e
  ·rw [R8] at e;have O:=join_len (txs r) (by simp [txs])
   unfold Ya;rw [e] at hf O⊢;have hl:l.length<=(Vi " " (l++ [z])).length:=by
    rw [uB] at O;simp![um,Uy] at O;omega
   have:=Ky l z ((Vi " " (l++ [z])).length+1-l.length) (λq hq=>hf q (vH _ hq)) (.inr (hf z (by simp)))
   rw [show l.length+((Vi " " (l++ [z])).length+1-l.length)=(Vi " " (l++ [z])).length+1 by omega] at this
   exact this
def VE:oj o6:= [.type "ValueError",.type "Exception",.type "BaseException",.type "object"]
def CX1 (P:o9)(w:og):CXT:=λouter H s E e s'=>∃(ea C:o3) (a0:o6) (H':Hp) (B:o8),e= .ref ea/\s'.os=s.os/\VO s'.gens/\0<s'.toks/\Un (frs outer) [] H H' s.heap s'.heap/\HOk P w H' B/\
 Fs B outer ea (.ref C) a0 s'.heap/\(∀b o,s.heap.get? b=u_ o->b∉frs outer->∃o',B.get? b=u_ o')/\E (.ref ea) (u_ C) H'
variable {h:o8}{C:o3}
theorem cls_in {bmB:oj o6}{newId:String}(X:K.In h)(q:PySem.W.excIn K C bmB newId=v_):
  ∃bm N nm Z bs hdct sn sub ab col dd k0 k1 k2 k3 k5 mN,h.get? C=u_ (excClassObj nm Z C N bs bm hdct sn sub ab col dd k0 k1 k2 k3 k5 newId)/\h.Ns N mN/\mN "__init__"=U_/\OwnTail h bmB bm:=by
 unfold PySem.W.excIn at q;split at q
 ·rename_i dd cd sl ho
  split at q
  ·rename_i C' bm k0 k1 k2 k3 n k5 hm hs
   simp![uw,beq_iff_eq,FW] at q;erw[q,[[[[rfl,rfl],O],ht],hok],U];erw[cd,nm,bs,aa,ns,Z,hd,sn,sub,ab,col,ac];dsimp only at hm O hok U;subst hm O;obtain⟨l⟩:=sl;simp only at hs;subst hs;exact⟨bm,ns,nm,Z,bs,hd,sn,sub,ab,col,dd,k0,k1,k2,k3,k5,_,X _ _ ho,.of_isNs (PySem.W.isNs_of_in X hok),PySem.W.nsMap_none_of_in X hok U,PySem.W.tail_of_in X ht⟩
  ·cases q
 ·cases q
theorem funs_gone {h base B:o8}:∀{l:oj Env},h.FunFrames base l->(∀b∈frs l,B.get? b=U_)->h.FunFrames B l
 | [],_,_=>trivial
 |env::r,⟨hk,⟨L,o,hf,hn,ho,hd⟩,hr⟩,hB=>by
  have e:frs (env::r)=L::frs r:=by unfold frs;rw [vW,hf]
  rw [e] at hB;exact[hk:⟨L,o,hf,hB L ug,ho,hd⟩:funs_gone hr λb O=>hB b (ud _ O)]
def tRaise (E:XK)(C:o3)(ta:TE):TS:=λ_ σ H=>tCons ta tNil σ H λvs H1=>vs.length=1/\∀e,E (.ref e) (u_ C) H1
theorem ps_raise {P:o9}{w:og}{K:o0}{mg:Str->om o6}{base:o8}{N:oj Str}{qual:Str}{scope:Vt}{f:o3}{U:o6}{A:oh}{outer:oj Env}{s₀:o7}{H₀:Hp}{E:XK}
  {x:Str}{C:o3}{np cpos pos:Pos}{aa:Expr}{ta:TE} (hx:PySem.W.excIn K C VE "ValueError.__new__"=v_) (hg:Gl (cxOf (CX1 P w) P w K mg base N qual scope f U A outer s₀ H₀ E) x) (hm:mg x=u_ (.ref C))
  (ha:PE (cxOf (CX1 P w) P w K mg base N qual scope f U A outer s₀ H₀ E) aa ta) (hd:(x==("__debug__":Str))=V9)
  (hs:Ve [aa] (Vg qual scope s₀.heap.objs.size f U)= [(V9,eval aa (Vg qual scope s₀.heap.objs.size f U))]):
  PS (cxOf (CX1 P w) P w K mg base N qual scope f U A outer s₀ H₀ E) (.Raise (u_ (.Call (.Name x np) [aa] [] cpos)) U_ pos) (tRaise E C ta):=by
 intro oq s σ H D I h;erw[cls_in I.mod.kin hx,bm,Nn,nm,q,bs,hdct,sn,sub,ab,col,dd,k0,k1,k2,k3,k5,mN,hC,hN,aq,T];have hT:bm.contains (.type "BaseException")=true:=T.hasType ()
 refine wpAny_Raise_call_subT (C:=C) (nm:=nm) (q:=q) (N:=Nn) (bs:=bs) (bm:=bm) (hdct:=hdct) (sn:=sn) (sub:=sub) (ab:=ab) (col:=col) (dd:=dd) (k0:=k0) (k1:=k1) (k2:=k2) (k3:=k3) (k5:=k5)
  (mN:=mN) F.excBase_ValueError hT (I.ok.hd rfl) (by show(Vn cpos (Ve [aa] (Vg qual scope s₀.heap.objs.size f U))).any (·.1)=V9;rw [hs];rfl) aq (KK I hg hm [1:?_] hd)
 have au:PA (cxOf (CX1 P w) P w K mg base N qual scope f U A outer s₀ H₀ E) [aa] (tCons ta tNil):=qb ha qc hs;have hp:=au cpos oq s σ H (λvs H1=>vs.length=1/\∀e,E (.ref e) (u_ C) H1) I h;show Va _ _ (evalArgs (.ref C) v_ (Vn cpos (Ve [aa] (Vg qual scope s₀.heap.objs.size f U))) []) _ _ s;have aw:Ve [aa] (cxOf (CX1 P w) P w K mg base N qual scope f U A outer s₀ H₀ E).env= [(V9,eval aa (Vg qual scope s₀.heap.objs.size f U))]:=hs;rw [aw] at hp;rw [hs];refine Ub (vS hp (λvs s₂ h₂=> ?_) λ_ _ y=>y);erw[h₂,ws,H2,I2,r2,q2];erw[q2,hl,q2];have bk:=I2.bk;have ax:vs.length<=sizeLine:=by rw [<-r2.length,hl];decide
 refine⟨1,ax,bk _ _ hC,hN.keeps bk,T.keeps bk,λh' e ad=> ?_⟩;show Va (Vq P w) (A.deeper (Vg qual scope s₀.heap.objs.size f U)) (Tf (Vg qual scope s₀.heap.objs.size f U) (.ref e)) (λ_ ag=>CX1 P w outer H₀ s₀ E (.ref e) ag) (λe' ag=>CX1 P w outer H₀ s₀ E e' ag) _;have ay:(A.deeper (Vg qual scope s₀.heap.objs.size f U)).frames=u_ (Vg qual scope s₀.heap.objs.size f U::outer):=I2.ok.frames;have ak:s₂.heap.FunFrames base (Vg qual scope s₀.heap.objs.size f U::outer):=I2.stack;have ah:∀b∈frs (Vg qual scope s₀.heap.objs.size f U::outer),H2 b=none:=I2.stkFree;have al:frs (Vg qual scope s₀.heap.objs.size f U::outer)=s₀.heap.objs.size::frs outer:=rfl;have ap:s₀.heap.objs.size<=s₀.heap.objs.size:=I2.ok.above;have O:Un (frs outer) [] H₀ H2 s₀.heap s₂.heap:=I2.base;refine wpAny_leaves_madeW (base:=TI.gone s₂.heap (frs (Vg qual scope s₀.heap.objs.size f U::outer))) (h:=s₂.heap) (L:=s₀.heap.objs.size) ay rfl (λb o e=>(TI.gone_some e).2) (funs_gone ak λb Z=>TI.gone_none Z) ad λam t af aB _ aA=> ?_;have ae:∀b o,b∉frs (Vg qual scope s₀.heap.objs.size f U::outer)->s₂.heap.get? b=u_ o->am.get? b=u_ o:=λb o Z e=>af.1 b o (by rwa [TI.gone_get Z])
 have slots:∀b o,s₂.heap.get? b=u_ o->(∀vs,o.data≠ .fields vs)->∃sl,am.get? b=u_ {o with slots:=sl}:=λb o e hn=>aA b o (ad.keeps b o e) hn
 have nd:∀b∈frs outer,∀o,s₂.heap.get? b=u_ o->∀vs,o.data≠ .fields vs:=λb Z o e=>by
  obtain⟨_,o',e',hn⟩:=ak.mem (show b∈(Vg qual scope s₀.heap.objs.size f U::outer).filterMap (·.frame) from by rw [show(Vg qual scope s₀.heap.objs.size f U::outer).filterMap (·.frame)=frs (Vg qual scope s₀.heap.objs.size f U::outer) from rfl,al];exact ud _ Z)
  rw [e] at e';cases e';exact hn
 have ac:∀b o,s₀.heap.get? b=u_ o->b∉frs outer->b∉frs (Vg qual scope s₀.heap.objs.size f U::outer):=λb o e Z hm=>by
  rw [al] at hm;rcases Ac.mp hm with rfl|hm
  ·exact absurd (uG e) (vD _)
  ·exact Z hm
 refine⟨e,C,.ref t,H2,0,I2.os,I2.bare,(by first|exact I2.tk|exact Vo I2.tk (V5 _ _)|((try dsimp only);first|assumption|exact Inv.tk (by assumption)|exact Tc _|exact Vo (Inv.tk (by assumption)) (by assumption)|exact Nat.add_pos_left (Inv.tk (by assumption)) _|omega)),⟨?_,?_,O.free,?_,O.tups,O.frzs,O.tbls⟩,?_,af,?_,q2 e⟩
 ·intro b o e1 hn Z hx;exact ae b o (ac b o e1 Z) (O.keep b o e1 hn Z hx)
 ·intro b o e1 hn Z hx;erw[O.slot b o e1 hn Z hx,sl,e2];erw[slots b _ e2 (nd b Z _ e2),ao,e3];exact[ao:e3]
 ·intro b o e1 hx;erw[O.there b o e1 hx,o',e2];by_cases Z:b∈frs outer
  ·erw[slots b _ e2 (nd b Z _ e2),ao,e3];exact[_:e3]
  ·exact[o':ae b o' (ac b o e1 Z) e2]
 ·intro b u Z;refine(I2.hok b u Z).stay (λc v hc q=> ?_) (λ_ q=>q) λ_ _ q=>q;rw [TI.gone_get]
  ·exact q
  ·intro hm;have hn:=ah c hm;rcases hc with z|z
   ·rw [z,Z] at hn;cases hn
   ·rw [z] at hn;cases hn
 ·intro b o e1 Z;obtain⟨o',e2⟩:=O.there b o e1 (by simp)
  exact⟨o',by rwa [TI.gone_get (ac b o e1 Z)]⟩
theorem Fun.okX {P:o9}{w:og}{K:o0}{mg:Str->om o6}{base:o8}{x qual:Str}{st:Stmt}{f:o3}{fd:Vd}{N ps:oj Str}{k:Nat}{sp:Sp}(F:Fun K x qual st f fd)(S:qu N ps (qj st))(len:∀vs H Q E,sp vs H Q E->vs.length=ps.length)
  (O:∀(cdv:o6) (A:oh) (outer:oj Env) (s:o7) (H:Hp) (vs:oj V) (Q:VK) (E:XK),Room k (A.deeper (Vg qual (qj st) s.heap.objs.size f cdv))->sp vs H Q E->
   ∃t,PSs (cxOf (CX1 P w) P w K mg base N qual (qj st) f cdv A outer s H E) (yU st) t/\t {nx:=λ_ H'=>Q .non H',rt:=Q} (KP N vs) H):FnOk P w K mg base (CX1 P w) (k+1) f fd ps sp:=by
 erw[F.ex,oc,od,kV,doc,pm,an,cdv,ct,osl,rfl,lk,U];exact fn_of lk U S len λA outer s H vs Q E hr Z=>O cdv A outer s H vs Q E hr Z
end L2
namespace PySem.AwM
open PySem.AutoSeq1 PySem.MeetsSeq PySem.MeetsSeq3
theorem tuple_mul1 (l:o3)(items:Array o6)(n:Nat)(dd:om o3)(sl:Array (om o6))(u:Tok):
  G9 (VS.«tuple.__mul__» [[.ref l,.int 1 u]:[]]) (λ_ R s=>s.heap.get? l=u_ {cls:= .type "tuple",dict:=dd,data:= .seq items n,slots:=sl}/\R (.ok (.ret (Vf l))) s):=
 .of_wp λprog w A R s h=>by
  erw[s,U,g,d,tk,os];erw[h,O,h];have Z:=idx_int;have f2:=sub_tuple_tuple;have f3:=sub_list_list;have f4:=sub_tuple_list;have f5:=sub_list_tuple;have c2:(items.isEmpty||(1:Int)==1)=true:=by simp
  wp_walk using vY O
  exact[0:h]
theorem tuple_mul0 (l:o3)(items:Array o6)(n:Nat)(dd:om o3)(sl:Array (om o6))(u:Tok)(O:items.isEmpty=V9):
  G9 (VS.«tuple.__mul__» [[.ref l,.int 0 u]:[]]) (λ_ R s=>s.heap.get? l=u_ {cls:= .type "tuple",dict:=dd,data:= .seq items n,slots:=sl}/\
   R (.ok (.ret (Vf s.heap.objs.size))) {s with heap:=s.heap.push {cls:=gS "tuple",data:=HS #[]},toks:=s.toks}):=
 .of_wp λprog w A R s h=>by
  erw[s,Z,g,d,tk,os];erw[h,U,h];have f1:=idx_int;have f2:=sub_tuple_tuple;have f3:=sub_list_list;have f4:=sub_tuple_list;have f5:=sub_list_tuple;have c2:¬(items.isEmpty||(0:Int)==1)=true:=by rw [O];decide
  have c3:(decide ((0:Int)<=0)||items.isEmpty)=true:=by simp
  wp_walk using vY U
  exact[0:h]
end PySem.AwM
namespace L2
open PySem PySem.Spec PyProof.Rows
section
variable {X:Cx}
inductive rRepG (K:PySem.W.Frag) (x:V) (y:V) (H:Hp) (Q:VK):Prop
 |mk (l:_) (k:_) (xs:_) (_:x= .ref l) (_:y= .int k) (_:SqT K H l xs) (_:xs≠ []) (_:0<=k) (_:k<1000000) (_:xs.length*k.toNat<=Vb) (_:(k=1->Q (.ref l) H)) (_:(k≠1->∀p,H p=U_->Q (.ref p) (upd H p (.tup (Vl k.toNat xs).flatten))))
theorem op_repG:OpR X (VC .Mult) (rRepG X.K):=by
 intro oq s σ H x y v u Q I rx ry h;erw[h,l,k,xs,rfl,rfl,hH,O,h0,h2,hz,q1,q];by_cases h1:1<k
 ·exact op_repT oq s σ H (.ref l) (.int k) v u Q I rx ry ⟨l,k,xs,1,1,hH,O,h1,h2,hz,q ()⟩
 cases rx;erw[ry,t,rfl];erw[I.tuple hH,its,r,p,z];erw[id p,[cls,dd,data,sl],e,hc,n,hd];simp only at hc hd;subst hc hd;have hl:=r.length;have Z:its.toArray.isEmpty=false:=by
  cases its with
  |nil=>exact absurd (vg hl) O
  |cons a b=>rfl
 rcases(show k=0∨k=1 by omega) with rfl|rfl
 ·refine UH (T:="tuple") (U:="int") () p.typeIs (λs'=>V8 s' 0 t) Yf F.fills_int_mul UB Ji F.slot_int_index.lookup
   (vn UB (V8 s 0 t) F.entry_int_rmul (F.args_int_rmul_2 _ _) (AwM.KI 0 t l its.toArray n dd sl)
    ⟨e,1,p.typeIs,vn F.slot_tuple_mul p.typeIs F.entry_tuple_mul (F.args_tuple_mul_2 _ _) (AwM.tuple_mul0 l its.toArray n dd sl t Z) [e:?_]⟩)
  refine⟨.ref s.heap.objs.size,_,I.laid (t':=s.toks) (o:= .tup []) (λb ob w=>ue _ w) (uj _) ?_,1,q () _ (I.hok.fresh (uj _))⟩
  exact⟨vf _,[],.nil,Gh _ _⟩
 ·refine UH (T:="tuple") (U:="int") () p.typeIs (λs'=>V8 s' 1 t) Yf F.fills_int_mul UB Ji F.slot_int_index.lookup
   (vn UB (V8 s 1 t) F.entry_int_rmul (F.args_int_rmul_2 _ _) (AwM.KI 1 t l its.toArray n dd sl)
    ⟨e,1,p.typeIs,vn F.slot_tuple_mul p.typeIs F.entry_tuple_mul (F.args_tuple_mul_2 _ _) (AwM.tuple_mul1 l its.toArray n dd sl t) [e:⟨.ref l,H,I,1,q1 rfl⟩]⟩)
end
end L2
namespace HT
open PySem PyProof.Rows
section
variable {prog:o9}{w:og}{A:oh}{E:o6->o7->Prop}{s:o7}
theorem getItem_tuple_all {t sl:o3}{items:Array o6}{vl vu:o6}{lo hi:om Int}{Q:o6->o7->Prop}(O:Gr s.heap t items)(hs:s.heap.IsSliceOf sl vl vu .none)(pl:VU vl lo)(pu:VU vu hi)
  (hw:sIx items.size 0 lo=0/\sIx items.size items.size hi=items.size) (h:Q (.ref t) s):Va #[w,w] A (VL (.ref t) (.ref sl)) Q E s:=by
 erw[id hs,os,Z,aa,ad];have ac:s.TypeIs (.ref sl) "slice":=[os:Z:aa];unfold VL
 try with_reducible refine VH ?_
 first|refine Ab (uE ?_)|skip
 refine Ab (RI O.typeIs () ?_)
 refine Ab (vG (name:=GC "__getitem__") O.typeIs vN
  (U3 vN O.typeIs Ff ?_ (Rl _ _)))
 show Va _ _ (FK (.ref t)>>=_) _ _ s;refine Ab (FI O ?_);refine Ab (Gj ac ?_);rw [Aa ()]
 refine Ab (jQ hs pl pu ?_);have U:((((sIx items.size 0 lo:Nat):Int)==0&&(1:Int)==1&&(sIx items.size items.size hi-sIx items.size 0 lo)==items.size)=v_):=by
  rw [hw.1,hw.2];simp
 show Va _ _ (if(((sIx items.size 0 lo:Nat):Int)==0&&(1:Int)==1&&(sIx items.size items.size hi-sIx items.size 0 lo)==items.size)=v_ then _ else _) _ _ s
 rw [Aa U];unfold pB;refine Ab (Ab (Gj O.typeIs (uE ?_)));rw [Aa ()]
 exact Ab (UX (uE [0:uE h]))
end
end HT
namespace L2
open PySem PySem.Spec PyProof.Rows
section
variable {X:Cx}
inductive rSlG (K:PySem.W.Frag) (x:V) (lo:Option Int) (hi:Option Int) (H:Hp) (Q:VK):Prop
 |mk (a:_) (xs:_) (_:x= .ref a) (_:SqT K H a xs) (_:(HT.sIx xs.length 0 lo=0/\HT.sIx xs.length xs.length hi=xs.length->Q (.ref a) H)) (_:(¬(HT.sIx xs.length 0 lo=0/\HT.sIx xs.length xs.length hi=xs.length)->∀p,H p=U_->Q (.ref p) (upd H p (.tup (cutV xs lo hi)))))
theorem wC:SlR X (rSlG X.K):=by
 intro oq s σ H x v vl vu lo hi sl Q I Z hs pl pu h;erw[h,a,xs,rfl,hx,q1,q2];by_cases U:HT.sIx xs.length 0 lo=0/\HT.sIx xs.length xs.length hi=xs.length
 ·cases Z;erw[I.tuple hx,its,r,ht,hz];have O:its.toArray.size=xs.length:=by rw [uz];exact r.length.symm
  exists "tuple",_,PyProof.Rows.slot_tuple_getitem.lookup,ht.typeIs;exact HT.getItem_tuple_all ht hs pl pu (by rwa [O]) ⟨.ref a,H,I,1,q1 U⟩
 ·exact sl_tup oq s σ H (.ref a) v vl vu lo hi sl Q I Z hs pl pu ⟨a,xs,1,hx,U,q2 U⟩
end
def y8 (n:Nat):Kd->Str->om Pt
 | .words,z=>u_ (.s z)
 | .box,z=>if z∈BX then u_ (.s z) else U_
 | .line,z=>((Vh n).find? λi:Nat=>decide ((Vk (1+(i:Int)):Str)=z)).map λi:Nat=> .n (1+(i:Int))
def Yh (n:Nat):oj Kd->oj Str->om (oj Pt)
 | [],_=>u_ []
 |k::ks,z::zs=>match y8 n k z,Yh n ks zs with
  |some p,u_ ps=>u_ (p::ps)
  |_,_=>U_
 |_::_,[]=>U_
def xb (w:Str):om (oj Kd):=(FRM.find? λx=>decide (x.1=w)).map (·.2)
def pcs (ks:oj Kd)(z:Str):oj Str:=spl (if Kd.words∈ks then ks.length else z.length+1) z
def ZG (n:Nat)(z:Str):om Rw:=
 if Qy z=v_ then match xb (hd z) with
  |none=>U_
  |some ks=>if(pcs ks z).length=1+ks.length then(Yh n ks ((pcs ks z).drop 1)).map λl=>(hd z,l) else U_
 else U_
variable {ks:oj Kd}
theorem X7 {w:Str}(h:xb w=u_ ks):(w,ks)∈FRM:=by
 unfold xb at h;cases e:FRM.find? λx=>decide (x.1=w) with
 |none=>rw [e] at h;cases h
 |some x=>
  rw [e] at h;have O:=Ht e;have hm:=Ua e;cases h;have:x.1=w:=uA O;subst this;exact hm
theorem wX {w:Str}(h:xb w=U_):∀x∈FRM,x.1≠w:=by
 unfold xb at h;rw [Tw,Ur] at h;intro x O e;exact h x O (uf e)
variable {n:Nat}{z:Str}
theorem partOf_ok {m:Nat}{k:Kd}{p:Pt}(U:z.length<=m)(ha:z.cps.toList.all QD=v_)(h:y8 n k z=u_ p):ptOk n m k p/\p.t=z:=by
 cases k with
 |words=>cases h;exact[[U:ha]:1]
 |box=>
  simp![y8] at h;by_cases O:z∈BX
  ·rw [Aa O] at h;cases h;exact[O:1]
  ·rw [A2 O] at h;cases h
 |line=>
  simp![y8] at h;cases e:(Vh n).find? λi:Nat=>decide ((Vk (1+(i:Int)):Str)=z) with
  |none=>rw [e] at h;cases h
  |some i=>
   rw [e] at h;cases h;have h1:=Ht e;have h2:=List.mem_range.mp (Ua e);exact[[():()]:uA h1]
theorem kh {n m:Nat}:∀{ks:oj Kd}{zs:oj Str}{ps:oj Pt},(∀z∈zs,z.length<=m/\z.cps.toList.all QD=v_)->zs.length=ks.length->Yh n ks zs=u_ ps->xR n m ks ps/\ps.map Pt.t=zs
 | [],[],ps,_,_,h=>by cases h;exact[trivial:1]
 | [],_::_,_,_,hl,_=>by simp at hl
 |_::_,[],_,_,hl,_=>by simp at hl
 |k::ks,z::zs,ps,hz,hl,h=>by
  unfold Yh at h;split at h
  ·rename_i p qs h1 h2
   cases h;erw[partOf_ok (hz z ug).1 (hz z ug).2 h1,O,U];obtain⟨b1,b2⟩:=kh (λy Z=>hz y (ud _ Z)) (by simpa using hl) h2
   exact⟨[O:b1],by rw [ui,U,b2]⟩
  ·cases h
def Kn:oj (oj Nat)->oj Nat
 | []=> []
 | [x]=>x
 |x::y::r=>x++32::Kn (y::r)
theorem joinL_cons (x:oj Nat){q:oj (oj Nat)}(O:q≠ []):Kn (x::q)=x++32::Kn q:=by
 cases q with
 |nil=>exact absurd rfl O
 |cons y r=>rfl
theorem Ku:∀(n:Nat) (L:oj Nat),Kn (cutL 32 n L)=L
 |0,L=>by simp [cutL,Kn]
 |n+1,[]=>by simp [cutL,Kn]
 |n+1,a::r=>by
  by_cases h:a=32
  ·have O:=Ku n r;erw[Jz 32 n r,p,q,e];rw [cutL,Aa h,joinL_cons [] (by rw [e];simp),O,h]
   rfl
  ·have O:=Ku (n+1) r;erw[Jz 32 (n+1) r,p,q,e];rw [e] at O;simp![cutL,A2 h,e];cases q with
   |nil=>simp![Kn] at O⊢;rw [O]
   |cons y t=>
    simp![Kn] at O⊢;rw [Ui,O]
theorem join_ofL:∀l:oj (oj Nat),(Vi " " (l.map ofL)).cps.toList=Kn l
 | []=>rfl
 | [x]=>by show(ofL x).cps.toList=x;unfold ofL;simp
 |x::y::r=>by
  have O:=join_ofL (y::r);show(Vi " " (ofL x::ofL y::r.map ofL)).cps.toList=_;rw [Jn];have e:(ofL x).cps.toList=x:=by unfold ofL;simp
  rw [e];show x++32::(Vi " " ((y::r).map ofL)).cps.toList=_;rw [O]
  rfl
theorem spl_back (n:Nat)(z:Str):Vi " " (spl n z)=z:=by
 unfold spl;have h:=join_ofL (cutL 32 n z.cps.toList);rw [Ku] at h;rw [<-Q4 (Vi " " ((cutL 32 n z.cps.toList).map ofL)),h,Q4]
theorem cut_head:∀(n:Nat) (L:oj Nat),∃q,cutL 32 (n+1) L=JS 32 L::q
 |n,[]=>⟨[],by simp [cutL,JS]⟩
 |n,a::r=>by
  by_cases h:a=32
  ·exact⟨cutL 32 n r,by simp [cutL,JS,h]⟩
  ·erw[cut_head n r,q,e];exact⟨q,by simp![cutL,A2 h,e,JS]⟩
theorem spl_head (n:Nat)(z:Str):∃q,spl (n+1) z=hd z::q:=by
 erw[cut_head n z.cps.toList,q,e];exact⟨q.map ofL,by unfold spl hd;rw [e];rfl⟩
theorem cut_sub:∀(n:Nat) (L:oj Nat),∀p∈cutL 32 n L,p.length<=L.length/\∀c∈p,c∈L
 |0,L=>λp O=>by
  simp [cutL] at O;subst O;exact[uj _:λc U=>U]
 |n+1,[]=>λp O=>by
  simp [cutL] at O;subst O;exact[uj _:λc U=>U]
 |n+1,a::r=>λp O=>by
  by_cases h:a=32
  ·rw [cutL,Aa h] at O;rcases Ac.mp O with rfl|O
   ·exact⟨vf _,λc U=>by simp at U⟩
   ·erw[cut_sub n r p O,h1,h2];exact⟨by simp;omega,λc U=>ud _ (h2 c U)⟩
  ·erw[Jz 32 (n+1) r,p0,q,e];have Z:=cut_sub (n+1) r;rw [e] at Z;simp![cutL,A2 h,e] at O;rcases Ac.mp O with rfl|O
   ·erw[Z p0 ug,h1,h2];refine⟨by simp;omega,λc U=> ?_⟩
    rcases Ac.mp U with rfl|U
    ·exact ug
    ·exact ud _ (h2 c U)
   ·erw[Z p (ud _ O),h1,h2];exact⟨by simp;omega,λc U=>ud _ (h2 c U)⟩
theorem spl_ok {m:Nat}(hz:z.length<=m)(ha:z.cps.toList.all QD=v_):∀p∈spl n z,p.length<=m/\p.cps.toList.all QD=true:=by
 intro p O;erw[Ag.mp O,q,U,rfl];erw[cut_sub n z.cps.toList q U,h1,h2];have e:(ofL q).cps.toList=q:=by unfold ofL;simp
 refine[?_:?_]
 ·have:(ofL q).length=q.length:=by unfold ofL VQ;simp
  rw [this];have:z.cps.toList.length=z.length:=by simp [VQ]
  omega
 ·rw [e,U4];intro c Z;exact List.all_eq_true.mp ha c (h2 c Z)
variable {r:Rw}
theorem rowOf_ok (h:ZG n z=u_ r):jS n 300 r/\Ya r=z:=by
 unfold ZG at h;split at h
 ·rename_i ht
  have O:=ht;unfold Qy at O;rw [uw,vj] at O;split at h
  ·cases h
  ·rename_i ks hk
   split at h
   ·rename_i hl
    cases e:Yh n ks ((pcs ks z).drop 1) with
    |none=>rw [e] at h;cases h
    |some l=>
     rw [e] at h;cases h;have hm:=X7 hk;have U:∀p∈(pcs ks z).drop 1,p.length<=300/\p.cps.toList.all QD=true:=λp Z=>spl_ok O.1 O.2 p (Ts Z);obtain⟨a1,a2⟩:=kh U (by rw [vI,hl];omega) e
     exists [ks:hm:a1];have aa:∃j,(if Kd.words∈ks then ks.length else z.length+1)=j+1:=by
      split
      ·rename_i hw
       exact⟨ks.length-1,by have:=List.length_pos_iff.mpr (λe=>by rw [e] at hw;simp at hw:ks≠ []);omega⟩
      ·exact[z.length:1]
     erw[aa,j,hj];erw[spl_head j z,q,hq];have Z:pcs ks z=hd z::q:=by unfold pcs;rwa [hj]
     have hb:Vi " " (pcs ks z)=z:=spl_back _ z;show Vi " " (hd z::l.map Pt.t)=z;rw [a2];rw [Z] at hb⊢;exact hb
   ·cases h
 ·cases h
section
variable {X:Cx}{oq:oj (o3×Obj)}{σ:St}{H:Hp}{s:o7}
theorem vals_refs:∀{cs:oj o3}{its:oj o6},Vals (cs.map V.ref) its->its=cs.map Vf
 | [],_,h=>by cases h;rfl
 |c::cs,_,h=>by
  cases h with
  |cons O U=>
   rw [vals_refs U,show _=Vf c from O]
   rfl
end
section
variable {X:Cx}
theorem zU:∀{ls:oj Str}{its:oj o6},Vals (ls.map V.str) its->Td its ls
 | [],_,h=>by cases h;exact .nil
 |z::ls,_,h=>by
  cases h with
  |cons O U=>
   erw[O,t,e];rw [e];exact .cons z t (zU U)
theorem zL:∀{ls:oj Str}{its:oj o6},Td its ls->Vals (ls.map V.str) its
 |_,_,.nil=> .nil
 |_,_,.cons x t h=> .cons [t:1] (zL h)
theorem vals_ext:∀{xs:oj V}{us:oj o6},xs.length=us.length->(∀(j:Nat) (x:V) (v:o6),xs[j]? =u_ x->us[j]? =u_ v->RelV x v)->Vals xs us
 | [],[],_,_=> .nil
 |x::xs,u::us,hl,h=> .cons (h 0 x u rfl rfl) (vals_ext (by simpa using hl) λj y v h1 h2=>h (j+1) y v (by simpa using h1) (by simpa using h2))
 | [],_::_,hl,_=>by simp at hl
 |_::_,[],hl,_=>by simp at hl
theorem call_sortedD (hc:X.calm=v_):Y6 X (.builtin "sorted") (λxs H Q=>∃(d:o3) (kvs:oj (Key×V)) (ls:oj Str),xs= [.ref d]/\H d=u_ (.dK kvs)/\kvs.map (·.1)=ls.map Vc/\ls.length<64/\∀(Z:oj Str) (q:o3),Z.Perm ls->GB Z=v_->H q=U_->Q (.ref q) (upd H q (.lst (Z.map V.str)))):=by
 intro oq s σ H xs us Q I r h;erw[h,d,kvs,ls,rfl,hd,hk,am,q];erw[JR r,u,rfl,ru];cases ru;erw[dk_of I.hok hd,hz,lo,vs,ae,dd];erw[id dd,o,es,ep,ho];have af:s.heap.DictAt (Qe X.prog X.w) d vs ep:=[o:es:ho];have aa:vs.length=ls.length:=by
  have h1:=congrArg VT hk;rw [uc,uc] at h1;rw [<-ae.length,h1]
 refine vh (n:=1) I.tk ?_;refine PySem.Calls.call_function_entry kind_sorted plain_sorted entry_sorted (args_sorted1 _) ?_;unfold VS.«sorted»;refine Ab (m:=checkCount "sorted" 1 1 _) (uE ?_);refine Ab (PySem.W.kdu_collect (A:=X.A.in1) (PySem.W.kdl_dict lo) (I.ok.hd hc) af (by rw [aa,uF];omega) λh' tk U ag O=> ?_)
 have hS:Td U.toList ls:=by
  refine zU (vals_ext (by rw [uc,vo];exact aa.symm.trans O.1.symm) λj x v hx hv=> ?_)
  rw [uI] at hx;cases ac:ls[j]? with
  |none=>rw [ac] at hx;cases hx
  |some z=>
   rw [ac] at hx;cases hx;obtain⟨k,y,e1,e2⟩:=O.2 j v (by rwa [<-rT])
   have e3:(kvs.map (·.1))[j]? =u_ k:=by
    rw [ae.keys,uI,e1]
    rfl
   rw [hk,uI,ac] at e3;cases e3;rcases Qu (show keyIs (Vc z) v=v_ from e2) with⟨i,t,e4,e5⟩|⟨z',t,e4,e5⟩
   ·cases e4
   ·cases e4;exact[t:e5]
 have ah:U.toList.length=ls.length:=by rw [vo,O.1,aa]
 refine Ab (tu ?_ (by rw [ah,uF];omega))
 have ad:(h'.push (seqObj "list" U.toList.toArray 0)).get? h'.objs.size=u_ (seqObj "list" U.toList.toArray 0):=uH _ rfl;refine Ab (VH (U3 slot_list_sort [_:ad:1] entry_list_sort (list_sort_treeK strKind_oneLt ad hS.keysOf (λv₁ v₂ rest e=>keyKind_strs (by rwa [<-e])) () λak a1 a2=>[0:?_]) (args_list_sort _)))
 refine uE [0:?_];erw[sorted_out_str hS a1 a2,Z,b1,b2,b3];erw[sortedHeap_at (out:=(arrOf ak).map (·.2)) ad,e,he];have al:Z.length=ls.length:=b2.length_eq;intro htk;have I':Inv X oq σ H {s with heap:=h',toks:=tk}:=I.kept ag
 refine⟨.ref h'.objs.size,_,I'.laid (t':=tk) (o:= .lst (Z.map V.str)) (λb u w=> ?_) (uj _) ⟨?_,_,e,zL b1,he⟩,1,q Z _ b2 b3 (I'.hok.fresh (uj _))⟩
 ·have hb:=uG w;rw [sortedHeap_old (uS hb) (by rw [size_push'];exact Nat.lt_succ_of_lt hb)]
  exact ue _ w
 ·rw [uc,al,uF];omega
def Itd (d:o3)(o:Obj):It:=
 ⟨λi H=>∃kvs,H d=u_ (.frz o (.dK kvs))/\i<kvs.length,λi H x H'=>H'=H/\∀kvs,H d=u_ (.frz o (.dK kvs))->(kvs.map λp=>kV p.1)[i]? =u_ x,λi H=>∃kvs,H d=u_ (.frz o (.dK kvs))/\kvs.length<=i⟩
variable {w:og}
theorem pairs_len {P:o9}{es:oj GF}{kvs:oj (Key×o6)}(h:Pairs (Qe P w) es kvs):es.length=kvs.length:=h.length
variable {H:Hp}{h:o8}{o:Obj}{es:Array GF}
theorem frz_at {P:o9}{d:o3}{kvs:oj (Key×V)}{ep:Nat}(ok:HOk P w H h)(e:H d=u_ (.frz o (.dK kvs)))(hd:o.data= .dict es ep):
  (d==Vu)=V9/\∃vs,KV kvs vs/\h.DictAt (Qe P w) d vs ep/\vs.length=es.size/\kvs.length<=sizeLine:=by
 obtain⟨U,hz,lo,vs,r,o',aa,ac,O,c1,Z,c3,c4,c5⟩:=(show yc P w H h d (.frz o (.dK kvs)) from ok d _ e)
 rw [U] at O;cases O;rw [hd] at Z;cases Z;exact⟨lo,vs,r,⟨o,es,U,c1,hd,c3,c4,c5⟩,by rw [<-vo];exact(pairs_len c4).symm,hz⟩
theorem kV_rel {k:Key}{v:o6}(h:keyIs k v=v_):RelV (kV k) v:=by
 rcases Qu h with⟨i,t,rfl,rfl⟩|⟨z,t,rfl,rfl⟩
 ·exact[t:1]
 ·exact[t:1]
variable {K:o0}{tg:Expr}
theorem turn_dict {P:o9}(d it:o3){ep:Nat}(hd:o.data= .dict es ep):Turn P w K tg (Itd d o) [it] it (λi h=>h.IsKeyIter it d i es.size ep) where
 mem:=by simp
 obj:=λi h st b O=>by
  have e:b=it:=by simpa using O
  subst e;erw[st,o,e,c,d];exact⟨o,e,λv z=>by rw [d] at z;cases z⟩
 keep:=λi h h' st k=>by
  erw[st,o,e,c,dd];exact⟨o,k it (by simp) o e,c,dd⟩
 item:=by
  intro X hP hw hK hc i oq s σ H E I hf st hg;subst hP hw hK;erw[hg,kvs,hq,hx];erw[frz_at I.hok hq hd,lo,vs,r,U,hl,_];have ad:=r.length;obtain⟨f0,f1,f2,f3,f4,f5⟩:=hf it (by simp)
  obtain⟨⟨k,v⟩,Z⟩:∃p,vs[i]? =u_ p:=[_:ur ()]
  refine wpAny_pyNext_dict_item (by rwa [hl]) U Z λae h' hk aa sb=> ?_
  have I1:Inv X oq σ H {s with heap:=h'}:=I.turned (t':=s.toks) (λb o O e=>(sb.2 b O).trans e) f0 f1 f3 f4 f5
  erw[id aa,oi,e,c,di];refine⟨ae,1,go_of (s:={s with heap:=h'}) e c di () ⟨kV k,H,I1,kV_rel hk,[1:λaf ac=> ?_],by rw [<-hl];exact aa,λb O=>(hf b O).1⟩⟩
  rw [hq] at ac;cases ac;have e3:(kvs.map (·.1))[i]? =u_ k:=by
   rw [r.keys,uI,Z]
   rfl
  rw [uI] at e3⊢;cases h4:kvs[i]? with
  |none=>rw [h4] at e3;cases e3
  |some p=>
   rw [h4] at e3;cases e3
   rfl
 done:=by
  intro X hP hw hK hc i oq s σ H E I hf st hg;subst hP hw hK;erw[hg,kvs,hq,hx];erw[frz_at I.hok hq hd,lo,vs,r,U,hl,_];have ad:=r.length;obtain⟨f0,f1,f2,f3,f4,f5⟩:=hf it (by simp)
  exact wpAny_pyNext_dict_end (I.ok.hd hc) (by rwa [hl]) U (TY ()) λh' eb=>[1:I.turned (t':=s.toks) (λb o O e=>eb b o O e) f0 f1 f3 f4 f5]
 self:=λ_ _ _ _ _ st h=>wpAny_pyIter_keyiter st h
def iDicF (tl:TE):TI:=λσ H R=>tl σ H λx H1=>∃d o kvs,x= .ref d/\H1 d=u_ (.frz o (.dK kvs))/\R (Itd d o) H1
theorem pi_dicF {tg l:Expr}{tl:TE}(Z:PE X l tl):PI X tg l (iDicF tl):=by
 intro oq s σ H R I h;refine thn (Z oq s σ H _ I h) λv s1 zq=> ?_;erw[zq,x,H1,O,r1,q1];erw[q1,d,o,kvs,rfl,hq,q];cases r1;obtain⟨ho,_,lo,vs,r,o',es,ep,U,c1,c2,_⟩:=(show yc X.prog X.w H1 s1.heap d (.frz o (.dK kvs)) from O.hok d _ hq)
 rw [ho] at U;cases U;erw[frz_at O.hok hq c2,lo,vs,r,aa,Z,_];refine wpAny_pyIter_dict lo aa ?_;refine⟨s1.heap.objs.size,[s1.heap.objs.size],_,_,H1,1,O.kept (t':=s1.toks) λb o e=>ue _ e,turn_dict d _ c2,⟨_,uH _ rfl,1,by rw [Z];rfl⟩,λb hb=> ?_,q⟩
 have e:b=s1.heap.objs.size:=by simpa using hb
 subst e;exact O.fpOk (uj _) (O.hok.fresh (uj _))
end
end L2
namespace PySem.AwK
open PySem Builtin Builtin.ObjectAttr
theorem lk_keys:HG (.type "list") "keys"=pure none:=by rw [FO,R6];kernel_rfl
section
variable {prog:o9}{w:og}{A:oh}{E:o6->o7->Prop}{s:o7}
theorem KL:isSubtype (.type "AttributeError") (.type "AttributeError")=pure true:=by rw [isSubtype_type];kernel_rfl
theorem raise_attr {α:Type}{o:o6}{name O:Str}{Q:α->o7->Prop}(hh:A.handled=U_)(hm:O.length<=Vb)
  (hq:∀h' ac e,(∀b ob,s.heap.get? b=u_ ob->h'.get? b=u_ ob)->(∃oe,h'.get? e=u_ oe/\oe.cls= .type "AttributeError")->E (.ref e) {s with heap:=h',toks:=ac}):
  Va #[w,w] A (rE o name O:Sem α) Q E s:=by
 unfold rE;refine Ab (wpAny_mkStr (Ab ?_) hm);unfold newExc newTuple;refine Ab (vB ?_ (by show(1:Nat)<=Vb;rw [uF];decide))
 refine Ab (m:=HZ _ _) (FG (a:=VW) (by kernel_rfl) ?_)
 obtain⟨h1,aa⟩:∃h1,h1=s.heap.push {cls:= .type "tuple",data:= .seq #[Vy O s.toks]}:=⟨0⟩;have k1:∀b ob,s.heap.get? b=u_ ob->h1.get? b=u_ ob:=λb ob e=>by rw [aa];exact ue _ e
 show Va #[w,w] A (newObj (.type "AttributeError") (.fields #[.ref s.heap.objs.size,.none,.none,.none,.bool V9,.none,VR,VR])) _ E {s with heap:=s.heap.push {cls:= .type "tuple",data:= .seq #[Vy O s.toks]},toks:=s.toks+1}
 rw [<-aa];refine vB ?_ (by unfold sizeOk;first|trivial|(rw [uF];simp)|decide)
 obtain⟨h2,U⟩:∃h2,h2=h1.push {cls:= .type "AttributeError",data:= .fields #[.ref s.heap.objs.size,.none,.none,.none,.bool V9,.none,VR,VR]}:=⟨0⟩;have k2:∀b ob,h1.get? b=u_ ob->h2.get? b=u_ ob:=λb ob e=>by rw [U];exact ue _ e
 have Z:h2.get? h1.objs.size=u_ {cls:= .type "AttributeError",data:= .fields #[.ref s.heap.objs.size,.none,.none,.none,.bool V9,.none,VR,VR]}:=by rw [U];exact uH _ rfl
 show Va #[w,w] A (do let x<-mkText name;noteAttr (.ref h1.objs.size) o x;raiseNew (.ref h1.objs.size)) Q E {s with heap:=h1.push {cls:= .type "AttributeError",data:= .fields #[.ref s.heap.objs.size,.none,.none,.none,.bool V9,.none,VR,VR]},toks:=s.toks+1}
 rw [<-U];have ne:∀b ob,h1.get? b=u_ ob->b≠h1.objs.size:=λb ob e=>uS (uG e);generalize h1.objs.size=e at Z ne⊢;refine Ab (Fz (Ab ?_));have hT:∀g d t os,(⟨h2,g,d,t,os⟩:o7).TypeIs (.ref e) "AttributeError":=λ_ _ _ _=>[_:Z:1];unfold noteAttr lacksNameAndObj;refine Ab (Ab (V4 (hT _ _ _ _) KL ?_));simp![Bool.not_true,UR,if_false];refine Ab (Hn Z ?_);dsimp only;rw [A2 (by simp [VR,V_]),A2 (by simp [VR,doubtfulMember,V_])]
 refine uE ?_;rw [Aa rfl];refine Ab (UX (Ab (Gj (hT _ _ _ _) ?_)));show Va #[w,w] A (layMembers e 6 #[Vy name (s.toks+1),o]) _ E _;unfold layMembers;refine Ab (Hn Z ?_);dsimp only;refine wpAny_update Z ?_;have e3:=T7 (TU λvs=>vs.extract 0 6++ #[Vy name (s.toks+1),o]) Z rfl;have k3:∀b ob,b≠e->h2.get? b=u_ ob->(h2.update e (TU λvs=>vs.extract 0 6++ #[Vy name (s.toks+1),o])).get? b=u_ ob:=λb ob hb q=>(Tg _ _ (UG hb)).trans q;exact wpAny_raiseNew_none hh (hq _ _ e (λb ob q=>k3 b ob (ne b ob (k1 b ob q)) (k2 b ob (k1 b ob q))) [_:e3:1])
end
section
variable {prog:o9}{w:og}{A:oh}{E:o6->o7->Prop}{h:o8}{g:Array tD}{d:Drawn}{t:Nat}{os:OsState}{a:o3}{its:Array o6}{n:Nat}{sl:Array (om o6)}
theorem nk_entry {tk:Tok}{Q:Fin->o7->Prop}(Z:A.handled=U_)(hx:h.get? a=u_ {cls:= .type "list",dict:=U_,data:= .seq its n,slots:=sl})
  (hq:∀h' O e,(∀b ob,h.get? b=u_ ob->h'.get? b=u_ ob)->(∃U,h'.get? e=u_ U/\U.cls= .type "AttributeError")->E (.ref e) ⟨h',g,d,O,os⟩):
  Va #[w,w] A (VS.«object.__getattribute__» [[.ref a,.str "keys" tk]:[]]) Q E ⟨h,g,d,t,os⟩:=by
 have hT:(⟨h,g,d,t,os⟩:o7).TypeIs (.ref a) "list":=[_:hx:1];have f4:=lk_keys
 repeat (any_goals (first|assumption|wp_step))
 exact raise_attr Z (by rw [uF];decide+kernel) hq
theorem nk_call {tk:Tok}{R:Ge->o7->Prop}(hh:A.handled=U_)(U:h.get? a=u_ {cls:= .type "list",dict:=U_,data:= .seq its n,slots:=sl})
  (hq:∀h' O e,(∀b ob,h.get? b=u_ ob->h'.get? b=u_ ob)->(∃Z,h'.get? e=u_ Z/\Z.cls= .type "AttributeError")->R (.error (.ref e)) ⟨h',g,d,O,os⟩):
  VJ #[w,w] A (.call (.builtin "list.__getattribute__") [[.ref a,.str "keys" tk]:[]]) R ⟨h,g,d,t,os⟩:=
 codeAny_call_builtin F.slot_list_getattribute.plain F.entry_list_ga (F.slot_list_getattribute.check _ _ _ _ _ _ _ _ (show(⟨h,g,d,t,os⟩:o7).TypeIs (.ref a) "list" from[_:U:1]) (F.args_list_getattribute_2 _ _) (nk_entry hh U hq))
theorem no_keys {Q:om o6->o7->Prop}(hh:A.handled=U_)(U:h.get? a=u_ {cls:= .type "list",dict:=U_,data:= .seq its n,slots:=sl})
  (hq:∀h' O,(∀b ob,h.get? b=u_ ob->h'.get? b=u_ ob)->Q U_ ⟨h',g,d,O,os⟩):Va #[w,w] A (getAttr? (.ref a) "keys") Q E ⟨h,g,d,t,os⟩:=by
 have hT:∀t,(⟨h,g,d,t,os⟩:o7).TypeIs (.ref a) "list":=λt=>[_:U:1];unfold getAttr? getAttrBy?;refine Ab (Fz (Ab (Hx ?_)));unfold getAttrBy;refine VH (Ab (Gj (hT _) ?_));rw [F.slot_list_getattribute.lookup];refine Ab (uE ?_);show Va #[w,w] A (Rr (.ref a) _ (.type "list") (.builtin "list.__getattribute__") V9 V9) _ _ _;unfold Rr;refine Ab (m:=hookBefore _) (uE ?_);refine Ab (Hx (VH ?_));show Va #[w,w] A (rL (.builtin "list.__getattribute__") (.ref a) _) _ _ _;unfold rL;rw [F.slot_list_getattribute.bind];refine Ab (uE (tH (nk_call hh U λh' O e k zq=> ?_)));erw[zq,oe,e1,e2];have Z:∀t,(⟨h',g,d,t,os⟩:o7).TypeIs (.ref e) "AttributeError":=λt=>[_:e1:e2];show Va #[w,w] A (rP (.ref a) _ (.type "list") (.ref e) U_ V9 V9) _ _ ⟨h',g,d,O,os⟩;unfold rP;refine Ab (V4 (Z _) KL ?_);rw [Aa rfl];have lg:hookBehind (.type "list") U_=pure none:=by
  show HG (.type "list") "__getattr__"=pure U_;rw [FO,R6]
  kernel_rfl
 rw [lg];refine Ab (uE ?_);show Va #[w,w] A (FB (.ref a) _ (.ref e) V9 V9) _ _ _;unfold FB;refine r_ ?_;refine Ab (V4 (Z _) KL ?_);rw [Aa rfl];exact uE (hq h' O k)
end
theorem WI:entryFor table "dict.update.loop"=u_ VS.«dict.update.loop»:=entryFor_of_fast (by kernel_rfl)
theorem JK:plainId "dict.update.loop"=true:=by decide+kernel
section
variable {prog:o9}{w:og}{A:oh}{E:o6->o7->Prop}{K:Type}[DecidableEq K]{knd:KeyKind prog w K}
def addAll (cur:oj (K×o6)):oj (K×o6)->oj (K×o6)
 | []=>cur
 |p::r=>addAll (Gb cur p.1 p.2) r
structure PairAt (h:o8)(d it:o3)(v:o6)(p:K×o6):Prop where
 at_:∃(t:o3) (o:Obj) (k:o6) (n:Nat),v= .ref t/\t≠d/\t≠it/\h.get? t=u_ o/\o.cls= .type "tuple"/\o.data= .seq #[k,p.2] n/\knd.is p.1 k=v_
theorem pairs_loop (hh:A.handled=U_){d it l:o3}{items:Array o6}{ps:oj (K×o6)}{R:Ge->o7->Prop}(ap:d≠l)(aq:it≠l)(Z:d≠it)(hn:items.size=ps.length)(hz:2*ps.length<=Vb)(res:o6):
  ∀(m i:Nat) (s:o7) (cur:oj (K×o6)),i+m=ps.length->s.heap.IsListIter it l i->s.heap.IsList l items->s.heap.DictOf knd d cur->cur.length<=i->
  (∀(j:Nat) (v:o6) (p:K×o6),items[j]? =u_ v->ps[j]? =u_ p->PairAt (knd:=knd) s.heap d it v p)->
  (∀h' aa,h'.DictOf knd d (addAll cur (ps.drop i))->(∀b o,b≠d->b≠it->s.heap.get? b=u_ o->h'.get? b=u_ o)->R (.ok (.ret res)) {s with heap:=h',toks:=aa})->
  VJ #[w,w] A (.builtin "dict.update.loop" [[.ref d,.ref it,V_ i,res]:[]]) R s:=by
 intro m
 induction m with
 |zero=>
  intro i s cur hm ac hl hd hc hp hR;refine RC WI ?_;rw [TM JK _];show Va _ A.in1 (gP (.ref it)>>=_) _ _ s;refine Ab (rW (A:=A.in1) hh ac hl (by rw [Array.getElem?_eq_none ()]) λh' eb=> ?_)
  have ad:h'.DictOf knd d cur:=by
   erw[hd,o,es,ep,ho,r];exact⟨o,es,ep,eb d o Z ho,r⟩
  have:=hR h' s.toks (by rwa [List.drop_eq_nil_of_le ()]) λb o U O e=>eb b o O e
  show Va #[w,w] A.in1 (Dict.addKeywords d []>>=λ_=>ret res) _ _ _;refine Ab (m:=Dict.addKeywords d []) (uE ?_);exact uE this
 |succ m ih=>
  intro i s cur hm ac hl hd hc hp hR;refine RC WI ?_;rw [TM JK _];have hi:i<items.size:=by omega
  have af:i<ps.length:=by omega
  have hx:items[i]? =u_ items[i]:=Array.getElem?_eq_getElem hi;have au:ps[i]? =u_ ps[i]:=ur af;erw[(hp i _ _ hx au).at_,t,o,k,n,ev,aC,aw,ho,ax,ay,hk];rw [ev] at hx;show Va _ A.in1 (gP (.ref it)>>=_) _ _ s;refine Ab (Fo (A:=A.in1) ac hl hx λh1 ag ae=> ?_);have ah:h1.get? t=u_ o:=(ae.2 t aw).trans ho;have hT:(({s with heap:=h1}:o7)).TypeIs (.ref t) "tuple":=[_:ah:ax]
  have ak:h1.DictOf knd d cur:=hd.sameBut ae Z;dsimp only;refine Ab (VH (Ab (wpAny_tryCatch ?_)));unfold Dict.pairItems;refine Ab (Gj hT ?_);rw [Aa ()]
  refine Ab ?_;unfold tL;refine Ab (Hn ah ?_);rw [ay];refine uE (uE ?_);show Va #[w,w] A.in1 (G7 [k,ps[i].2] (dictSet d k ps[i].2)) _ _ _;refine VH (wpAny_dictSet_pairs hk ak (λh2 aA al=> ?_) ())
  have am:h2.IsListIter it l (i+1):=by
   erw[ag,oi,e,c];exact[oi:(al.2 it (UG Z)).trans e:c]
  have keep:∀b ob,b≠d->b≠it->s.heap.get? b=u_ ob->h2.get? b=u_ ob:=λb ob U O e=>(al.2 b U).trans ((ae.2 b O).trans e);have aB:h2.IsList l items:=by
   erw[hl,ol,e,c];exact[ol:keep l ol (UG ap) (UG aq) e:c]
  refine uE [Rg JK _:?_];have ao:(Gb cur ps[i].1 ps[i].2).length<=i+1:=by
   unfold Gb;split
   ·rw [uc];omega
   ·rw [uB];show cur.length+1<=i+1;omega
  refine ih (i+1) _ _ () am aB aA ao (λj v p h1 h2=> ?_) λh' aa ad kp=> ?_
  ·erw[(hp j v p h1 h2).at_,t',o',k',n',e1,e2,e3,e4,e5];exact⟨⟨t',o',k',n',e1,e2,e3,keep t' o' e2 e3 e4,e5⟩⟩
  ·refine hR h' aa ?_ λb ob U O e=>kp b ob U O (keep b ob U O e);rw [uY af];exact ad
theorem dict_pairs (hh:A.handled=U_){s:o7}{l:o3}{items:Array o6}{n:Nat}{sl:Array (om o6)}{ps:oj (K×o6)}{Q:o6->o7->Prop}(hl:s.heap.get? l=u_ {cls:= .type "list",dict:=U_,data:= .seq items n,slots:=sl})(hn:items.size=ps.length)(hz:2*ps.length<=Vb)
  (hp:∀(j:Nat) (v:o6) (p:K×o6),items[j]? =u_ v->ps[j]? =u_ p->∃(t:o3) (o:Obj) (k:o6) (n:Nat),v= .ref t/\s.heap.get? t=u_ o/\o.cls= .type "tuple"/\o.data= .seq #[k,p.2] n/\knd.is p.1 k=v_)
  (hQ:∀h' aa,h'.DictOf knd s.heap.objs.size (addAll [] ps)->(∀b o,s.heap.get? b=u_ o->h'.get? b=u_ o)->Q (.ref s.heap.objs.size) {s with heap:=h',toks:=aa}):
  Va #[w,w] A (call (.type "dict") [.ref l]) Q E s:=by
 refine callType_codes (Q₁:=λobj s₁=>obj= .ref s.heap.objs.size/\s₁={s with heap:=s.heap.push {cls:= .type "dict",data:= .dict #[]}}) F.kt_called_dict (F.kt_typeCall_dict_1 _) F.entry_dict_init (kt_code_dict_new _ [1:1]) ?_
 rintro obj s₁ ⟨rfl,rfl⟩;have U:(s.heap.push {cls:= .type "dict",data:= .dict #[]}).DictOf knd s.heap.objs.size []:=FR s.heap;exists U.typeIs,F.args_dict_init_2 _ _;unfold VS.«dict.__init__»;refine Ab ?_;unfold pG;refine Ab (wpAny_notOrdered_dict U.typeIs ?_);refine(show Va _ _ (pure (s.heap.objs.size,[Vf l])) _ _ _ from ?_)
 refine uE ?_;refine(show Va _ _ (FX "dict.__init__" s.heap.objs.size (.ref l) [] .none) _ _ _ from ?_)
 unfold FX;have Z:(s.heap.push {cls:= .type "dict",data:= .dict #[]}).get? l=u_ {cls:= .type "list",dict:=U_,data:= .seq items n,slots:=sl}:=ue _ hl;refine Ab (Gj (T:="list") [_:Z:1] ?_);rw [Aa ()]
 refine Ab (no_keys (A:=A.in1.in1) hh Z λh2 al k2=> ?_);rw [Aa (show(U_:om o6).isNone=v_ from rfl)]
 have ac:l<s.heap.objs.size:=uG hl;have ae:h2.IsList l items:=⟨_,k2 _ _ Z,1,n,1⟩;refine Ab (UX (Ab (UW ae ?_)));have ad:h2.DictOf knd s.heap.objs.size []:=by
  erw[U,o,es,ep,ho,r];exact⟨o,es,ep,k2 _ _ ho,r⟩
 have O:s.heap.objs.size<h2.objs.size:=by
  erw[ad,o,es,ep,ho,r];exact uG ho
 have k1:∀b o,s.heap.get? b=u_ o->h2.get? b=u_ o:=λb o e=>k2 b o (ue _ e);have k3:∀b o,h2.get? b=u_ o->(h2.push {cls:= .type "list_iterator",data:= .fields #[.ref l,.int 0 0]}).get? b=u_ o:=λb o e=>ue _ e;have af:(h2.push {cls:= .type "list_iterator",data:= .fields #[.ref l,.int 0 0]}).IsList l items:=⟨_,k3 _ _ (k2 _ _ Z),1,n,1⟩;have ag:(h2.push {cls:= .type "list_iterator",data:= .fields #[.ref l,.int 0 0]}).DictOf knd s.heap.objs.size []:=ad.push _;refine uE [Rg JK _:pairs_loop (A:=A.in1) hh (d:=s.heap.objs.size) (it:=h2.objs.size) (l:=l) (items:=items) (ps:=ps) (Uw ac) (Uw (Hq ac O)) (uS O) hn hz .none ps.length 0 _ [] () ⟨_,uH _ rfl,1,1⟩ af ag (uj _) (λj v p h1 ah=> ?_) λh' aa ak kp=> ?_]
 ·erw[hp j v p h1 ah,t,o,k,n',e1,e2,e3,e4,e5];have ht:=uG e2;exact⟨⟨t,o,k,n',e1,uS ht,uS (Hq ht O),k3 _ _ (k1 _ _ e2),e3,e4,e5⟩⟩
 ·refine[1:hQ h' aa ak λb o e=> ?_];have hb:=uG e;exact kp b o (uS hb) (uS (Hq hb O)) (k3 _ _ (k1 _ _ e))
end
end PySem.AwK
namespace L2
open PySem PySem.Spec PyProof.Rows
section
variable {X:Cx}
def inrK (ps:oj (Str×V)):oj (Key×V):=ps.map λp=>(Vc p.1,p.2)
theorem ZU (ps:oj (Str×V)):(inrK ps).map (·.1)=(ps.map (·.1)).map Sum.inr:=by
 unfold inrK;rw [uL,uL]
 rfl
theorem stored_new {kvs:oj (Key×o6)}{k:Key}{v:o6}(h:k∉kvs.map (·.1)):Gb kvs k v=kvs++ [(k,v)]:=by
 unfold Gb;rw [A2];intro q;erw[List.any_eq_true.mp q,p,O,e];exact h (Ag.mpr [p:O:uA e])
theorem WM:∀{ps cur:oj (Key×o6)},((cur++ps).map (·.1)).Nodup->AwK.addAll cur ps=cur++ps
 | [],cur,_=>(uW cur).symm
 |p::r,cur,h=>by
  unfold AwK.addAll;have O:p.1∉cur.map (·.1):=by
   rw [uu,ui] at h;intro q;exact(List.nodup_append.mp h).2.2 _ q _ ug rfl
  rw [stored_new O,WM (by rw [vv];exact h),vv]
  rfl
theorem pairs_are {P:o9}{w:og}{H:Hp}{h:o8}(ok:HOk P w H h):∀{ts:oj o3}{ps:oj (Str×V)},ts.length=ps.length->(∀(i:Nat) (t:o3) (p:Str×V),ts[i]? =u_ t->ps[i]? =u_ p->H t=u_ (.tup [.str p.1,p.2]))->
  ∃pv:oj (Key×o6),KV (inrK ps) pv/\∀(j:Nat) (v:o6) (p:Key×o6),(ts.map Vf)[j]? =u_ v->pv[j]? =u_ p->∃(t:o3) (o:Obj) (k:o6) (n:Nat),v= .ref t/\h.get? t=u_ o/\o.cls= .type "tuple"/\o.data= .seq #[k,p.2] n/\(Qe P w).is p.1 k=v_
 | [],[],_,_=>⟨[],.nil,λj v p e=>by simp at e⟩
 |t::ts,p::ps,hl,hp=>by
  obtain⟨pv,h1,h2⟩:=pairs_are ok (ts:=ts) (ps:=ps) (by simpa using hl) λi t' p' O U=>hp (i+1) t' p' (by simpa using O) (by simpa using U)
  obtain⟨_,its,rv,o,Z,hc,n,hd⟩:=(show yc P w H h t (.tup [.str p.1,p.2]) from ok t _ (hp 0 t p rfl rfl))
  cases rv with
  |cons r1 rv=>
  cases rv with
  |cons r2 rv=>
  cases rv with
  |nil=>
  erw[r1,tk,rfl]
  rename_i u
  refine[(Vc p.1,u)::pv:.cons [1:r2] h1:λj v q O U=> ?_];cases j with
  |zero=>
   simp![ui,List.getElem?_cons_zero,pA] at O U;subst O U;exact⟨t,o,_,n,1,Z,hc,hd,Z5 _ _ _ _⟩
  |succ j=>exact h2 j v q (by simpa using O) (by simpa using U)
 | [],_::_,hl,_=>by simp at hl
 |_::_,[],hl,_=>by simp at hl
def PairsL (H:Hp)(l:o3)(ps:oj (Str×V)):Prop:=∃ts:oj o3,H l=u_ (.lst (ts.map V.ref))/\ts.length=ps.length/\∀(i:Nat) (t:o3) (p:Str×V),ts[i]? =u_ t->ps[i]? =u_ p->H t=u_ (.tup [.str p.1,p.2])
theorem dict_of {oq:oj (o3×Obj)}{σ:St}{H:Hp}{s:o7}{l:o3}{ps:oj (Str×V)}{Q:o6->o7->Prop}(hc:X.calm=v_)(I:Inv X oq σ H s)(hl:PairsL H l ps)(hn:(ps.map (·.1)).Nodup)(hz:ps.length<=1000)
  (h:∀h' O pv,0<O->(∀b o,s.heap.get? b=u_ o->h'.get? b=u_ o)->KV (inrK ps) pv->h'.DictOf (Qe X.prog X.w) s.heap.objs.size pv->Q (.ref s.heap.objs.size) {s with heap:=h',toks:=O}):
  Va #[X,X] X.A (call (.type "dict") [.ref l]) Q X.xe s:=by
 erw[hl,ts,e1,e2,e3];obtain⟨_,its,n,rv,ho⟩:=(show yc X.prog X.w H s.heap l (.lst (ts.map V.ref)) from I.hok l _ e1)
 cases vals_refs rv;erw[pairs_are I.hok e2 e3,pv,r,hp];have ac:pv.length=ps.length:=by
  rw [<-r.length];unfold inrK;rw [uc]
 have Z:(pv.map (·.1)).Nodup:=by
  rw [<-r.keys,ZU];exact pH _ (λa b aa e=>aa (Uu e)) hn
 refine vh (n:=1) I.tk ?_;refine AwK.dict_pairs (knd:=Qe X.prog X.w) (I.ok.hd hc) (ps:=pv) ho (by rw [uz,uc];omega) (by rw [uF];omega) (λj v p h1 h2=>hp j v p (by simpa using h1) h2) λh' O U kp=> ?_
 rw [WM (by simpa using Z),Fb] at U
 exact λhtk=>h h' O pv htk kp r U
theorem WX (Z:X.calm=v_):Y6 X (.type "dict") (λxs H Q=>∃(l:o3) (ps:oj (Str×V)),xs= [.ref l]/\PairsL H l ps/\(ps.map (·.1)).Nodup/\ps.length<=1000/\∀q,H q=U_->Q (.ref q) (upd H q (.dK (inrK ps)))):=by
 intro oq s σ H xs us Q I r h;erw[h,l,ps,rfl,hl,hn,hz,q];erw[JR r,u,rfl,ru];cases ru;refine dict_of Z I hl hn hz λh' aa pv htk kp rel dd=> ?_;have O:(s.heap.objs.size==Vu)=false:=by
  rw [UK];exact Uw I.big
 have U:(inrK ps).length<=sizeLine:=by unfold inrK;rw [uc,uF];omega
 exact⟨.ref s.heap.objs.size,_,I.laid kp (uj _) (dk_new U O rel dd),1,q _ I.fresh⟩
theorem call_dictF (Z:X.calm=v_):Y6 X (.type "dict") (λxs H Q=>∃(l:o3) (ps:oj (Str×V)),xs= [.ref l]/\PairsL H l ps/\(ps.map (·.1)).Nodup/\ps.length<=1000/\∀q o,H q=U_->Q (.ref q) (upd H q (.frz o (.dK (inrK ps))))):=by
 intro oq s σ H xs us Q I r h;erw[h,l,ps,rfl,hl,hn,hz,q];erw[JR r,u,rfl,ru];cases ru;refine dict_of Z I hl hn hz λh' aa pv htk kp rel dd=> ?_;have O:(s.heap.objs.size==Vu)=false:=by
  rw [UK];exact Uw I.big
 have U:(inrK ps).length<=sizeLine:=by unfold inrK;rw [uc,uF];omega
 erw[id dd,o,es,ep,ho,rr];exact⟨.ref s.heap.objs.size,_,I.laid (o:= .frz o (.dK (inrK ps))) kp (uj _) [ho:dk_new U O rel dd],1,q _ o I.fresh⟩
end
mutual
def puD:D->Bool
 | .str _=>v_
 | .int _=>v_
 | .tup xs=>puL xs
 |_=>V9
def puL:oj D->Bool
 | []=>v_
 |x::r=>puD x&&puL r
end
mutual
def eqD:D->D->Bool
 | .str a,.str b=>a==b
 | .int a,.int b=>a==b
 | .tup xs,.tup ys=>eqL xs ys
 |_,_=>V9
def eqL:oj D->oj D->Bool
 | [],[]=>v_
 |x::r,y::q=>eqD x y&&eqL r q
 |_,_=>V9
end
mutual
theorem eqD_iff:∀{d e:D},puD d=v_->(eqD d e=v_↔d=e)
 | .str a,e,_=>by cases e<;>simp [eqD]
 | .int a,e,_=>by cases e<;>simp [eqD]
 | .tup xs,.tup ys,h=>by
  have:=eqL_iff (xs:=xs) (ys:=ys) (by simpa [puD] using h)
  simp![eqD,this,D.tup.injEq]
 | .tup xs,.non,_=>by simp [eqD]
 | .tup xs,.bl _,_=>by simp [eqD]
 | .tup xs,.int _,_=>by simp [eqD]
 | .tup xs,.str _,_=>by simp [eqD]
 | .tup xs,.lst,_=>by simp [eqD]
 | .tup xs,.dct,_=>by simp [eqD]
 | .non,_,h=>by simp [puD] at h
 | .bl _,_,h=>by simp [puD] at h
 | .lst,_,h=>by simp [puD] at h
 | .dct,_,h=>by simp [puD] at h
theorem eqL_iff:∀{xs ys:oj D},puL xs=v_->(eqL xs ys=v_↔xs=ys)
 | [],[],_=>by simp [eqL]
 | [],_::_,_=>by simp [eqL]
 |_::_,[],_=>by simp [eqL]
 |x::r,y::q,h=>by
  have h':puD x=v_/\puL r=true:=by simpa [puL] using h
  simp![eqL,uw,eqD_iff h'.1,eqL_iff h'.2,vx]
end
mutual
theorem Is.det {H:Hp}:∀{d e:D}{v:V},puD d=v_->puD e=v_->Is H d v->Is H e v->d=e
 | .str a,e,v,_,he,h1,h2=>by
  obtain⟨rfl,_⟩:=(show v= .str a/\_ from h1)
  cases e with
  |str b=>obtain⟨q,_⟩:=(show V.str a=V.str b/\_ from h2);cases q;rfl
  |int b=>cases(show V.str a=V.int b from h2)
  |tup ys=>erw[h2,p,us,q,_];cases q
  |_=>simp [puD] at he
 | .int a,e,v,_,he,h1,h2=>by
  cases(show v= .int a from h1)
  cases e with
  |str b=>obtain⟨q,_⟩:=(show V.int a=V.str b/\_ from h2);cases q
  |int b=>cases(show V.int a=V.int b from h2);rfl
  |tup ys=>erw[h2,p,us,q,_];cases q
  |_=>simp [puD] at he
 | .tup xs,e,v,hd,he,h1,h2=>by
  erw[h1,p,vs,rfl,Z,hl];cases e with
  |str b=>obtain⟨q,_⟩:=(show V.ref p=V.str b/\_ from h2);cases q
  |int b=>cases(show V.ref p=V.int b from h2)
  |tup ys=>
   erw[h2,p',us,q,O,U];cases q;rw [Z] at O;cases O;rw [IsL.det (by simpa [puD] using hd) (by simpa [puD] using he) hl U]
  |_=>simp [puD] at he
 | .non,_,_,hd,_,_,_=>by simp [puD] at hd
 | .bl _,_,_,hd,_,_,_=>by simp [puD] at hd
 | .lst,_,_,hd,_,_,_=>by simp [puD] at hd
 | .dct,_,_,hd,_,_,_=>by simp [puD] at hd
theorem IsL.det {H:Hp}:∀{xs ys:oj D}{vs:oj V},puL xs=v_->puL ys=v_->IsL H xs vs->IsL H ys vs->xs=ys
 | [],[],_,_,_,_,_=>rfl
 | [],_::_,_,_,_,h1,h2=>by
  cases(show _= [] from h1)
  erw[h2,v,r,q,_];cases q
 |_::_,[],_,_,_,h1,h2=>by
  cases(show _= [] from h2)
  erw[h1,v,r,q,_];cases q
 |x::xs,y::ys,_,hd,he,h1,h2=>by
  erw[h1,v,r,rfl,Z,a2];erw[h2,v',r',q,b1,b2];cases q;have O:puD x=v_/\puL xs=true:=by simpa [puL] using hd
  have U:puD y=v_/\puL ys=true:=by simpa [puL] using he
  rw [Is.det O.1 U.1 Z b1,IsL.det O.2 U.2 a2 b2]
end
theorem eqL_all:∀(xs ys:oj D),eqL xs ys=((Vh (min xs.length ys.length)).all (λj=>eqD (xs.getD j .non) (ys.getD j .non))&&xs.length==ys.length)
 | [],[]=>by simp [eqL]
 | [],_::_=>by simp [eqL]
 |_::_,[]=>by simp [eqL]
 |x::r,y::q=>by
  have O:=eqL_all r q;rw [um,um,show min (r.length+1) (q.length+1)=min r.length q.length+1 by omega,vZ,vy,UM]
  have e:(Vh (min r.length q.length)).all ((λj=>eqD ((x::r).getD j .non) ((y::q).getD j .non))∘T0)=(Vh (min r.length q.length)).all λj=>eqD (r.getD j .non) (q.getD j .non):=by congr 1
  rw [e];have U:(r.length+1==q.length+1)=(r.length==q.length):=by rw [vR];simp
  rw [U,Ft,<-O]
  rfl
section
variable {X:Cx}{oq:oj (o3×Obj)}{σ:St}{H:Hp}{s:o7}
variable {z:Str}{e:D}{u:V}{A:oh}
theorem eqAt_str (I:Inv X oq σ H s){t:Tok}{b:o6}(U:puD e=v_)(h2:Is H e u)(O:RelV u b)(Z:A.units<Vj):Vr A s (.str z t) b (eqD (.str z) e):=by
 cases e with
 |str y=>
  obtain⟨rfl,_⟩:=(show u= .str y/\_ from h2)
  erw[O,t2,rfl];exact HY _ _ _ _
 |int y=>
  cases(show u= .int y from h2)
  erw[O,t2,rfl];exact UP _ _ _ _
 |tup ys=>
  erw[id h2,p,us,rfl,hp,hl];cases O;erw[I.tuple (.inl (.of hp)),its,_,q,_];exact F0 _ _ q Z
 |_=>simp [puD] at U
theorem eqAt_int (I:Inv X oq σ H s){z:Int}{t:Tok}{b:o6}(U:puD e=v_)(h2:Is H e u)(O:RelV u b)(Z:A.units<Vj):Vr A s (.int z t) b (eqD (.int z) e):=by
 cases e with
 |str y=>
  obtain⟨rfl,_⟩:=(show u= .str y/\_ from h2)
  erw[O,t2,rfl];exact UO _ _ _ _
 |int y=>
  cases(show u= .int y from h2)
  erw[O,t2,rfl];exact tO _ _ _ _
 |tup ys=>
  erw[id h2,p,us,rfl,hp,hl];cases O;erw[I.tuple (.inl (.of hp)),its,_,q,_];exact rQ _ _ q Z
 |_=>simp [puD] at U
theorem wV:∀{xs:oj D}{j:Nat}{x:D},puL xs=v_->xs[j]? =u_ x->puD x=v_
 | [],_,_,_,e=>by simp at e
 |y::r,0,x,h,e=>by
  have h':puD y=v_/\puL r=true:=by simpa [puL] using h
  have:y=x:=by simpa using e
  exact this▸h'.1
 |y::r,j+1,x,h,e=>by
  have h':puD y=v_/\puL r=true:=by simpa [puL] using h
  exact wV h'.2 (by simpa using e)
theorem eqAt_tup (I:Inv X oq σ H s){xs:oj D}{e:D}{v u:V}{a b:o6}{A:oh}(hd:puD (.tup xs)=v_)(he:puD e=v_)(h1:Is H (.tup xs) v)(h2:Is H e u)(r1:RelV v a)(r2:RelV u b)(hu:A.units<Vj)
  (ih:∀x∈xs,∀(e:D) (v u:V) (a b:o6),puD x=v_->puD e=v_->Is H x v->Is H e u->RelV v a->RelV u b->Vr A.in1 s a b (eqD x e)):Vr A s a b (eqD (.tup xs) e):=by
 erw[id h1,p,vs,rfl,hp,hl];cases r1;erw[I.tuple (.inl (.of hp)),its,rv,q,_];cases e with
 |str y=>
  obtain⟨rfl,_⟩:=(show u= .str y/\_ from h2)
  erw[r2,t2,rfl];exact TL _ _ q hu
 |int y=>
  cases(show u= .int y from h2)
  erw[r2,t2,rfl];exact FE _ _ q hu
 |tup ys=>
  by_cases hv:V.ref p=u
  ·have:=Is.det (e:= .tup ys) hd he h1 (hv▸h2);subst hv;cases r2;rw [<-this,(eqD_iff hd).mpr rfl];exact h_ _
  ·erw[id h2,p',us,rfl,aa,O];cases r2;erw[I.tuple (.inl (.of aa)),its',U,q',_];have l1:its.length=xs.length:=by rw [<-rv.length,hl.length]
   have l2:its'.length=ys.length:=by rw [<-U.length,O.length]
   have ac:puL xs=true:=by simpa [puD] using hd
   have ad:puL ys=true:=by simpa [puD] using he
   have ae:=UY (e:=λj=>eqD (xs.getD j .non) (ys.getD j .non)) q q' hu λj a1 a2=>by
    have Z:j<xs.length:=by rw [<-l1];simpa using a1
    have j2:j<ys.length:=by rw [<-l2];simpa using a2
    obtain⟨v1,e1,i1⟩:=hl.get (i:=j) (d:=xs[j]) (by simp [Z])
    obtain⟨v2,e2,i2⟩:=O.get (i:=j) (d:=ys[j]) (by simp [j2])
    erw[rv.get e1,b1,f1,g1];erw[U.get e2,b2,f2,g2];have k1:its.toArray[j]=b1:=by
     have:=f1;rw [ur (by rwa [l1])] at this
     simpa using this
    have k2:its'.toArray[j]=b2:=by
     have:=f2;rw [ur (by rwa [l2])] at this
     simpa using this
    have d1:xs.getD j .non=xs[j]:=by simp [VP,Z]
    have d2:ys.getD j .non=ys[j]:=by simp [VP,j2]
    show Vr _ s _ _ (eqD (xs.getD j .non) (ys.getD j .non));rw [k1,k2,d1,d2];exact ih _ (vi Z) _ _ _ _ _ (wV (j:=j) ac (by simp [Z])) (wV (j:=j) ad (by simp [j2])) i1 i2 g1 g2
   have e1:eqD (.tup xs) (.tup ys)=((Vh (min its.toArray.size its'.toArray.size)).all (λj=>eqD (xs.getD j .non) (ys.getD j .non))&&its.toArray.size==its'.toArray.size):=by
    rw [uz,uz,l1,l2,<-eqL_all];simp![eqD]
   rw [e1];exact F_ (λz=>hv (by rw [z])) ae
 |_=>simp [puD] at he
theorem eqAt_D (I:Inv X oq σ H s):∀(n:Nat) (d e:D) (v u:V) (a b:o6) (A:oh),dp d<=n->puD d=v_->puD e=v_->Is H d v->Is H e u->RelV v a->RelV u b->A.units+n<Vj->Vr A s a b (eqD d e):=by
 intro n
 induction n with
 |zero=>
  intro d e v u a b A hn hd U h1 h2 Z r2 hu;cases d with
  |int z=>
   cases(show v= .int z from h1)
   erw[Z,t,rfl];exact eqAt_int I U h2 r2 hu
  |str z=>simp [dp] at hn
  |tup xs=>simp [dp] at hn
  |_=>simp [puD] at hd
 |succ n ih=>
  intro d e v u a b A hn hd U h1 h2 Z r2 hu;have O:A.units<cLine:=U6 (V5 _ _) hu;cases d with
  |int z=>
   cases(show v= .int z from h1)
   erw[Z,t,rfl];exact eqAt_int I U h2 r2 O
  |str z=>
   obtain⟨rfl,_⟩:=(show v= .str z/\_ from h1)
   erw[Z,t,rfl];exact eqAt_str I U h2 r2 O
  |tup xs=>
   have hm:dpL xs<=n:=by
    have:dp (.tup xs)=1+dpL xs:=by simp![dp]
    omega
   exact eqAt_tup I hd U h1 h2 Z r2 O λx hx e v u a b k1 k2 k3 k4 k5 k6=>ih x e v u a b A.in1 ((zV xs).mp hm x hx) k1 k2 k3 k4 k5 k6 (by rw [uV];omega)
  |_=>simp [puD] at hd
end
section
variable {X:Cx}
def trD:D->Bool
 | .str _=>v_
 | .tup xs=>puL xs
 |_=>V9
variable {oq:oj (o3×Obj)}{σ:St}{H:Hp}{s:o7}{A:oh}{n:Nat}{its:oj o6}
theorem parts_eq (I:Inv X oq σ H s){xs ys:oj D}{vs us:oj V}{its':oj o6}(hn:dpL xs<=n)(hd:puL xs=v_)(he:puL ys=v_)(hl:IsL H xs vs)(O:IsL H ys us)(rv:Vals vs its)(U:Vals us its')(hu:A.units+n<Vj):
  ∀j (a1:j<its.toArray.size) (a2:j<its'.toArray.size),Vr A s its.toArray[j] its'.toArray[j] (eqD (xs.getD j .non) (ys.getD j .non)):=λj a1 a2=>by
 have l1:its.length=xs.length:=by rw [<-rv.length,hl.length]
 have l2:its'.length=ys.length:=by rw [<-U.length,O.length]
 have Z:j<xs.length:=by rw [<-l1];simpa using a1
 have j2:j<ys.length:=by rw [<-l2];simpa using a2
 obtain⟨v1,e1,i1⟩:=hl.get (i:=j) (d:=xs[j]) (by simp [Z])
 obtain⟨v2,e2,i2⟩:=O.get (i:=j) (d:=ys[j]) (by simp [j2])
 erw[rv.get e1,b1,f1,g1];erw[U.get e2,b2,f2,g2];have k1:its.toArray[j]=b1:=by
  have:=f1;rw [ur (by rwa [l1])] at this
  simpa using this
 have k2:its'.toArray[j]=b2:=by
  have:=f2;rw [ur (by rwa [l2])] at this
  simpa using this
 have d1:xs.getD j .non=xs[j]:=by simp [VP,Z]
 have d2:ys.getD j .non=ys[j]:=by simp [VP,j2]
 rw [k1,k2,d1,d2];exact eqAt_D I n _ _ _ _ _ _ A ((zV xs).mp hn _ (vi Z)) (wV (j:=j) hd (by simp [Z])) (wV (j:=j) he (by simp [j2])) i1 i2 g1 g2 hu
variable {e:D}{y:V}
theorem rc_D (I:Inv X oq σ H s){d:D}{x:V}{v u:o6}(h1:Is H d x)(h2:Is H e y)(p1:trD d=v_)(p2:trD e=v_)(hn:dp d<=60)(rx:RelV x v)(ry:RelV y u)(hu:A.units+64<Vj):
  TN A s v u (eqD d e)/\TQ A s v u (!eqD d e):=by
 have O:A.units<cLine:=by omega
 cases d with
 |str z=>
  obtain⟨rfl,_⟩:=(show x= .str z/\_ from h1)
  erw[rx,t,rfl];cases e with
  |str w=>
   obtain⟨rfl,_⟩:=(show y= .str w/\_ from h2)
   erw[ry,t2,rfl];exact[RV _ _ _ _:pI _ _ _ _]
  |tup ys=>
   erw[id h2,p,us,rfl,hp,hl];cases ry;erw[I.tuple (.inl (.of hp)),its,_,q,_];exact[Fv _ _ q O:pD _ _ q O]
  |_=>simp [trD] at p2
 |tup xs=>
  erw[id h1,p,vs,rfl,hp,hl];cases rx;erw[I.tuple (.inl (.of hp)),its,rv,q,_];cases e with
  |str w=>
   obtain⟨rfl,_⟩:=(show y= .str w/\_ from h2)
   erw[ry,t2,rfl];exact[FL _ _ q O:RS _ _ q O]
  |tup ys=>
   erw[id h2,p',us,rfl,aa,U];cases ry;erw[I.tuple (.inl (.of aa)),its',Z,q',_];have hm:dpL xs<=60:=by
    have:dp (.tup xs)=1+dpL xs:=by simp![dp]
    omega
   have l1:its.length=xs.length:=by rw [<-rv.length,hl.length]
   have l2:its'.length=ys.length:=by rw [<-Z.length,U.length]
   have pe:=parts_eq I (A:=A.in1) hm (by simpa [trD] using p1) (by simpa [trD] using p2) hl U rv Z (by rw [uV];omega)
   have e1:eqD (.tup xs) (.tup ys)=((Vh (min its.toArray.size its'.toArray.size)).all (λj=>eqD (xs.getD j .non) (ys.getD j .non))&&its.toArray.size==its'.toArray.size):=by
    rw [uz,uz,l1,l2,<-eqL_all];simp![eqD]
   rw [e1];exact[UY q q' O pe:TW q q' O pe]
  |_=>simp [trD] at p2
 |_=>simp [trD] at p1
inductive rCmpD (g:Bool->Bool) (x:V) (y:V) (H:Hp) (Q:VK):Prop
 |mk (d e:D) (_:Is H d x) (_:Is H e y) (_:trD d=v_) (_:trD e=v_) (_:dp d<=60) (_:Q (.bl (g (eqD d e))) H)
theorem op_eqD (O:X.A.units+64<Vj):OpR X (Vm .Eq) (rCmpD id):=by
 intro oq s σ H x y v u Q I U Z h;erw[h,d,e,h1,h2,p1,p2,hn,q];exact(rc_D I h1 h2 p1 p2 hn U Z O).1 X.prog X.w X.xe _ ⟨.bl _,H,I,1,q⟩
end
variable {X:Cx}
theorem Jw:Y6 X (.builtin "len") (λxs H Q=>(∃z:Str,xs= [.str z]/\z.length<=Vb/\Q (.int z.length) H)∨∃p ys,xs= [.ref p]/\(SqL X.K H p ys∨SqT X.K H p ys)/\(ys.length<=Vb->Q (.int ys.length) H)):=by
 intro oq s σ H xs us Q I r h;rcases h with⟨z,e,O,q⟩|h
 ·exact KA oq s σ H xs us Q I r ⟨_,z.length,e,[O:1],q⟩
 ·exact call_lenB oq s σ H xs us Q I r h
def gLstU (K:o0)(n:Nat)(t:TGs):TG:=λv σ H Q=>∃a xs,v= .ref a/\SqL K H a xs/\xs.length=n/\t xs σ H Q
theorem pg_lstU {X:Cx}{es:oj Expr}{k:Nat}{t:TGs}{n:Nat}{pos:Pos}(Z:X.calm=v_)(h:PGs X es t)
  (hn:(VV es X.env).length=n) (O:(VV es X.env).findIdx? (·.1)=U_):PG X (.Tuple es k pos) (gLstU X.K n t):=by
 intro oq s σ H v u Q I r U;erw[U,a,xs,e1,hq,hl,U];subst e1;cases r;erw[I.list hq,its,rv,ht,hz];rw [assign_Tuple];refine Ab (HC ?_);unfold unpack;rw [O,hn,<-hl,show xs.length=its.toArray.size by simp [rv.length]]
 refine Ab (VH (PySem.W.kun_itemsOf (I.ok.hd Z) ht.isList λh' hx=> ?_));have I1:Inv X oq σ H {s with heap:=h'}:=I.kept (t':=s.toks) λb o e=>hx b o (uS (uG e)) e
 exact h oq _ σ H xs _ Q I1 (by simpa using rv) U
variable {w:og}{K:o0}{mg:Str->om o6}{f:o3}{A:oh}
theorem pass1 {P:o9}{base:o8}{N:oj Str}{qual:Str}{scope:Vt}{cd:o6}{outer:oj Env}{s₀:o7}{H₀:Hp}{E:XK}:
  XH (CX1 P w) (cxOf (CX1 P w) P w K mg base N qual scope f cd A outer s₀ H₀ E) E:=by
 intro oq σ H s e s' I h;erw[h,ea,C,a0,H',B,rfl,au,ae,htk,aw,al,am,hold,hE];show Va (Vq P w) (A.deeper (Vg qual scope s₀.heap.objs.size f cd)) (Tf (Vg qual scope s₀.heap.objs.size f cd) (.ref ea)) (λ_ af=>CX1 P w outer H₀ s₀ E (.ref ea) af) (λe' af=>CX1 P w outer H₀ s₀ E e' af) _;have ax:(A.deeper (Vg qual scope s₀.heap.objs.size f cd)).frames=u_ (Vg qual scope s₀.heap.objs.size f cd::outer):=I.ok.frames;have ag:frs (Vg qual scope s₀.heap.objs.size f cd::outer)=s₀.heap.objs.size::frs outer:=rfl;have O:Un (frs outer) [] H₀ H s₀.heap s.heap:=I.base;have U:Un (frs (Vg qual scope s₀.heap.objs.size f cd::outer)) [] H H' s.heap s'.heap:=aw;have aa:Fs B (Vg qual scope s₀.heap.objs.size f cd::outer) ea (.ref C) a0 s'.heap:=am;have ac:∀b o,s.heap.get? b=u_ o->b∉frs (Vg qual scope s₀.heap.objs.size f cd::outer)->∃o',B.get? b=u_ o':=hold;have ay:=aa.2.2.1;have ad:∀b o,s₀.heap.get? b=u_ o->b∉frs outer->b∉frs (Vg qual scope s₀.heap.objs.size f cd::outer):=λb o e hb hm=>by
  rw [ag] at hm;rcases Ac.mp hm with rfl|hm
  ·exact absurd (uG e) (vD _)
  ·exact hb hm
 have nd:∀b∈frs outer,∀o,s'.heap.get? b=u_ o->∀vs,o.data≠ .fields vs:=λb hb o e=>by
  obtain⟨_,o',e',hn⟩:=ay.mem (show b∈(Vg qual scope s₀.heap.objs.size f cd::outer).filterMap (·.frame) from by rw [show(Vg qual scope s₀.heap.objs.size f cd::outer).filterMap (·.frame)=frs (Vg qual scope s₀.heap.objs.size f cd::outer) from rfl,ag];exact ud _ hb)
  rw [e] at e';cases e';exact hn
 refine wpAny_leaves_onW (base:=B) (L:=s₀.heap.objs.size) ax rfl aa λaA ah ao=> ?_;have aB:∀b o o',B.get? b=u_ o'->s'.heap.get? b=u_ o->aA.get? b=u_ o:=λb o o' Z e2=>by
  have:=aa.1 b o' Z;rw [e2] at this;cases this;exact ah.1 b o Z
 refine⟨ea,C,a0,H',B,1,au.trans I.os,ae,htk,⟨?_,?_,?_,?_,?_,?_,?_⟩,al,ah,?_,hE⟩
 ·intro b o Z hn hb hx;have e2:=O.keep b o Z hn hb hx;have ak:=O.free b o Z hn hx;have ap:=ad b o Z hb;have e3:=U.keep b o e2 ak ap hx;erw[ac b o e2 ap,o',e4];exact aB b o o' e4 e3
 ·intro b o Z hn hb hx;erw[O.slot b o Z hn hb hx,sl,e2];have ak:=O.free b o Z hn hx;obtain⟨aC,e3⟩:=U.slot b _ e2 ak (by rw [ag];exact ud _ hb) hx
  erw[ao b _ e3 (nd b hb _ e3),aq,e4];exact[aq:e4]
 ·intro b o Z hn hx;erw[O.there b o Z hx,o',e2];exact U.free b o' e2 (O.free b o Z hn hx) hx
 ·intro b o Z hx;erw[O.there b o Z hx,o',e2];by_cases hb:b∈frs outer
  ·erw[U.there b o' e2 hx,o2,e3];erw[ao b _ e3 (nd b hb _ e3),aq,e4];exact[_:e4]
  ·erw[ac b o' e2 (ad b o Z hb),o2,e3];exact[o2:ah.1 b o2 e3]
 ·exact λb xs e=>U.tups b xs (O.tups b xs e)
 ·exact λb o u e=>U.frzs b o u (O.frzs b o u e)
 ·intro b ps e;erw[O.tbls b ps e,m1,Z];erw[U.tbls b _ Z,m2,e2];exact⟨m1++m2,by rwa [<-T9]⟩
 ·intro b o Z hb;obtain⟨o',e2⟩:=O.there b o Z (by simp)
  exact ac b o' e2 (ad b o Z hb)
theorem passF:XH (CX1 X.prog X.w) X E0:=λ_ _ _ _ _ _ _ h=>by
 erw[h,_,_,_,_,_,_,_,_,_,_,_,_,_,z];exact VA z
end L2
namespace L2
open PySem PyProof.Rows
variable {H:Hp}{p:o3}
theorem Tk.updD {xs ys:oj (Key×V)}(h:H p=u_ (.dK xs)):Tk H (upd H p (.dK ys)):=by
 refine[λb zs e=> ?_:λb zs e=>[zs:?_]:λb zs e=> ?_]
 ·rw [qh (λz=>by rw [z,h] at e;cases e)];exact e
 ·rw [qh (λz=>by rw [z,h] at e;cases e)];exact e
 ·by_cases z:b=p
  ·exact⟨ys,by rw [z];exact qg⟩
  ·exact⟨zs,by rwa [qh z]⟩
variable {C dx:o3}
theorem Tk.updI {O dx':o3}{xs ys:oj (Str×V)}(h:H p=u_ (.ins C dx xs)):Tk H (upd H p (.ins O dx' ys)):=
 ⟨λb zs e=>by rw [qh (λz=>by rw [z,h] at e;cases e)];exact e,λb zs e=>⟨zs,by rw [qh (λz=>by rw [z,h] at e;cases e)];exact e⟩,λb zs e=>⟨zs,by rw [qh (λz=>by rw [z,h] at e;cases e)];exact e⟩⟩
section
variable {X:Cx}
inductive rStarts (x:V) (vs:List V) (H:Hp) (Q:VK):Prop
 |mk (z y:Str) (_:x= .str z) (_:vs= [.str y]) (_:Q (.bl (g_ z y)) H)
theorem mt_starts:MtM X "str.startswith" rStarts:=by
 intro oq s σ H x vs v us Q I O rv h;erw[h,z,y,rfl,rfl,q];erw[O,t,rfl];erw[rv.one,u,rfl,t',rfl];exact SC.startswith ⟨.bl (g_ z y),H,I,1,q⟩
end
theorem lc_dicF {d A:o3}{o:Obj}{H1:Hp}{tc:TT}{te:TE}{tl:St}{Q:VK}{kvs:oj (Key×V)}{ls:oj Str}(p:Str->Bool)(f:Str->V)(hd:H1 d=u_ (.frz o (.dK kvs)))(hk:kvs.map (·.1)=ls.map Vc)(hn:ls.length<=Vb)(hA:H1 A=U_)
  (U:∀z H (R:Bool->Hp->Prop),z∈ls->Same H1 H->R (p z) H->tc (u_ (.str z)::tl) H R)
  (Z:∀z H (R:VK),z∈ls->Same H1 H->R (f z) H->te (u_ (.str z)::tl) H R)
  (hQ:∀H',Same H1 H'->H' A=u_ (.lst ((ls.filter p).map f))->Q (.ref A) H'):lcGo A (Itd d o) (Jv 0) tc te (U_::tl) H1 Q:=by
 have ac:kvs.length=ls.length:=by
  have:=congrArg VT hk
  simpa using this
 refine⟨ls.length,λi σ ys H=>(∃w,σ=w::tl)/\ys=((ls.take i).filter p).map f/\Same H1 H,hn,[[U_:1]:1:qf hA _],?_,?_⟩
 ·rintro i σ ys H hi ⟨⟨w,rfl⟩,rfl,sm⟩ O hy;exists [kvs:sm _ _ hd:()]
  rintro x H' ⟨rfl,hx⟩;have e:=hx kvs (sm _ _ hd);have e2:(kvs.map λp=>kV p.1)[i]? =u_ (V.str ls[i]):=by
   have:(kvs.map λp=>kV p.1)=(kvs.map (·.1)).map kV:=by rw [uL];rfl
   rw [this,hk,uL,uI,ur hi]
   rfl
  rw [e2] at e;cases e;have et:ls.take (i+1)=ls.take i++ [ls[i]]:=by rw [vV,ur hi];rfl
  have aa:∀ys,Same H1 (upd H' A (.lst ys)):=λys b o' e=>by
   rw [qh (ql e hA)];exact sm _ _ e
  dsimp![Jv,GL];refine U ls[i] H' _ (vi hi) sm ?_;cases hp:p ls[i] with
  |true=>
   refine iteT (Z ls[i] H' _ (vi hi) sm ⟨O,⟨0⟩,?_,aa _⟩);rw [et,f_,uu];simp [hp]
  |false=>
   refine iteF ⟨O,⟨0⟩,?_,sm⟩;rw [et,f_,uu];simp [hp]
 ·rintro σ ys H ⟨_,rfl,sm⟩ O;rw [V6] at O;exact[[kvs:sm _ _ hd:()]:hQ H sm O]
theorem lc_strs {K:o0}{a A:o3}{H1:Hp}{te:TE}{tl:St}{Q:VK}{ls:oj Str}(C:Nat->oj V->Hp->Prop)(ha:H1 a=u_ (.lst (ls.map V.str)))(hn:ls.length<=Vb)(hA:H1 A=U_)(h0:C 0 [] (upd H1 A (.lst [])))
  (aa:∀i z ys H,ls[i]? =u_ z->C i ys H->H A=u_ (.lst ys)->H a=u_ (.lst (ls.map V.str))->ys.length<=i->∀R:VK,(∀y H4,H4 A=u_ (.lst ys)->H4 a=u_ (.lst (ls.map V.str))->C (i+1) (ys++ [y]) (upd H4 A (.lst (ys++ [y])))->R y H4)->te (u_ (.str z)::tl) H R)
  (hQ:∀ys H,C ls.length ys H->H A=u_ (.lst ys)->Q (.ref A) H):lcGo A (Itl K a) (Jv 0) tYes te (U_::tl) H1 Q:=by
 have U:a≠A:=ql ha hA;refine⟨ls.length,λi σ ys H=>(∃w,σ=w::tl)/\C i ys H/\H a=u_ (.lst (ls.map V.str)),hn,⟨[U_:1],h0,by rwa [qh U]⟩,?_,?_⟩
 ·rintro i σ ys H hi ⟨⟨w,rfl⟩,hc,Z⟩ O hy;have e0:(ls.map V.str)[i]? =u_ (V.str ls[i]):=by rw [uI,ur hi];rfl
  exists ⟨_,_,SqL.of Z,e0⟩;rintro x H' ⟨rfl,hx⟩;have e:=hx _ (SqL.of Z);rw [e0] at e;cases e;dsimp![Jv,tYes,GL];rw [Aa rfl];exact aa i ls[i] ys H' (ur hi) hc O Z hy _ λy H4 h4 h5 c4=>⟨h4,⟨0⟩,c4,by rwa [qh U]⟩
 ·rintro σ ys H ⟨_,hc,Z⟩ O;exact⟨⟨_,SqL.of Z,by simp⟩,hQ ys H hc O⟩
section
variable {X:Cx}{K:o0}{o e:Expr}{es:oj Expr}{to:TE}{t:TA}{name:Str}{apos cpos:Pos}{T id:String}{r:V->oj V->Hp->VK->Prop}
theorem pe_bmK (hK:X.K=K)(pa:tT T)(slot:Slot T name id)(ac:typeOf (.builtin id)=pure (.type "method_descriptor"))(hm:MtR X id r)(ho:PE X o to)(ha:PA X (e::es) t)
  (U:VZ o name X.env (eval o X.env)=eval o X.env)
  (aa:((Vn cpos (Ve (e::es) X.env)).all (λx=> !x.1)&&(Gm cpos (Gg [] X.env)).all (λx=>x.1.isSome)
   &&decide ((e::es).length+([]:oj gW).length+(if([]:oj gW).isEmpty then 0 else 1)<30))=v_)
  (Z:(apos.endLine==cpos.line)=v_) (hs:Ve (e::es) X.env=(V9,eval e X.env)::Ve es X.env) (O:(Vn cpos (Ve es X.env)).any (·.1)=V9):
  PE X (.Call (.Attribute o name apos) (e::es) [] cpos) (tBM K T r to t):=by
 subst hK;exact YL pa slot ac hm ho ha U aa Z hs O
end
section
variable {X:Cx}
theorem Inv.laidM {oq:oj (o3×Obj)}{σ:St}{H H':Hp}{s:o7}{h':o8}{t':Nat}(I:Inv X oq σ H s)(k:∀b u,s.heap.get? b=u_ u->h'.get? b=u_ u)(sm:Same H H')
  (O:∀b o,H b=U_->H' b=u_ o->s.heap.objs.size<=b/\yc X.prog X.w H' h' b o) (U:0<t'):Inv X oq σ H' {s with heap:=h',toks:=t'}:=by
 refine I.un ⟨λb u q _ _ _=>k b u q,λb u q _ _ _=>[u.slots:k b u q],λb u q n _=> ?_,λb u q _=>[u:k b u q],λb xs q=>sm _ _ q,λb u xs q=>sm _ _ q,λb ps q=>⟨#[],by rw [sm _ _ q];simp⟩⟩ (λb u e=> ?_) U
 ·cases e:H' b with
  |none=>rfl
  |some o=>
   exact absurd (uG q) (Nat.not_lt.mpr (O b o n e).1)
 ·cases q:H b with
  |none=>exact(O b u q e).2
  |some o=>
   rw [sm _ _ q] at e;cases e;exact(I.hok b _ q).stay (λc v _ z=>k c v z) (λc z=>sm _ _ z) λc xs z=>sm _ _ z
end
def addT (ps:oj (o3×oj V))(H:Hp):Hp:=ps.foldl (λh p=>upd h p.1 (.tup p.2)) H
theorem XS:∀(ps:oj (o3×oj V)) (H:Hp) (b:o3),b∉ps.map (·.1)->addT ps H b=H b
 | [],_,_,_=>rfl
 |p::r,H,b,h=>by
  show addT r (upd H p.1 (.tup p.2)) b=_;rw [XS r _ b (λm=>h (ud _ m)),qh (λe=>h (by rw [e];exact ug ..))]
theorem addT_at:∀(ps:oj (o3×oj V)) (H:Hp) (p:o3×oj V),(ps.map (·.1)).Nodup->p∈ps->addT ps H p.1=u_ (.tup p.2)
 | [],_,_,_,h=>nomatch h
 |q::r,H,p,hn,h=>by
  have O:=List.nodup_cons.mp hn;show addT r (upd H q.1 (.tup q.2)) p.1=_;rcases Ac.mp h with rfl|h
  ·rw [XS r _ _ O.1,qg]
  ·exact addT_at r _ p O.2 h
def zq (H:Hp)(kvs:oj (Key×V))(ts:oj o3):Prop:=ts.length=kvs.length/\∀(j:Nat) (t:o3) (p:Key×V),ts[j]? =u_ t->kvs[j]? =u_ p->H t=u_ (.tup [kV p.1,p.2])
inductive ItItems (mk:List V->HO) (Q:VK) (x:V) (H1:Hp):Prop
 |mk (d:Addr) (kvs:List (Key×V)) (_:x= .ref d) (_:Rd H1 d (.dK kvs)) (_:∀(t:Addr) (ts:List Addr) (H2:Hp),Same H1 H2->H1 t=U_->H2 t=u_ (mk (ts.map V.ref))->zq H2 kvs ts->Q (.ref t) H2)
def tItems (mk:oj V->HO)(to:TE):TE:=λσ H Q=>to σ H λx H1=>ItItems mk Q x H1
theorem wK {α β:Type}:∀{as:oj α}{bs:oj β},as.length=bs.length->(as.zip bs).map (·.1)=as
 | [],[],_=>rfl
 |a::as,b::bs,h=>by
  rw [List.zip_cons_cons,ui,wK (by simpa using h)]
theorem paired_at {α β:Type}{F:α->β->Prop}:∀{l₁:oj α}{l₂:oj β},Paired F l₁ l₂->∀{j:Nat}{a:α}{b:β},l₁[j]? =u_ a->l₂[j]? =u_ b->F a b
 |_,_,.nil,j,a,b,h,_=>by simp at h
 |_,_,.cons f r,0,a,b,h1,h2=>by
  cases h1;cases h2;exact f
 |_,_,.cons f r,j+1,a,b,h1,h2=>paired_at r (j:=j) (by simpa using h1) (by simpa using h2)
section
variable {X:Cx}{oq:oj (o3×Obj)}{σ:St}{H:Hp}{s:o7}
theorem items_laid {r t:o3}{kvs:oj (Key×V)}{vs:oj (Key×o6)}{as:oj o3}{h1 h2:o8}{tk:Nat}{o:HO}(I:Inv X oq σ H s)(O:KV kvs vs)(k2:∀b u,s.heap.get? b=u_ u->h2.get? b=u_ u)(hl:as.length=vs.length)(hz:s.heap.objs.size<=r)
  (hG:PySem.W.KdxG (Qe X.prog X.w) vs r h1 as) (ac:∀a∈as,∀u,h1.get? a=u_ u->h2.get? a=u_ u) (ht:s.heap.objs.size<=t) (ad:t∉as) (hu:∃u,o=u) (htk:0<tk)
  (new:∀H',Same H H'->zq H' kvs as->yc X.prog X.w H' h2 t o):
  ∃H',Inv X oq σ H' {s with heap:=h2,toks:=tk}/\Same H H'/\H t=U_/\H' t=u_ o/\zq H' kvs as:=by
 have hn:as.Nodup:=hG.rise.imp λh=>uS h;have hf:∀a∈as,H a=none:=λa ha=>I.hok.fresh (uM hz (Uv (hG.above a ha)));have aa:H t=none:=I.hok.fresh ht;have ag:kvs.length=vs.length:=O.length
 let ps:oj (o3×oj V):=as.zip (kvs.map λp=> [kV p.1,p.2])
 have ef:ps.map (·.1)=as:=wK (by rw [uc];omega)
 have ae:Same H (addT ps H):=λb u e=>by
  rw [XS ps H b (by rw [ef];exact λm=>by rw [hf b m] at e;cases e)]
  exact e
 have sm:Same H (upd (addT ps H) t o):=λb u e=>by
  rw [qh (ql e aa)];exact ae _ _ e
 have it:zq (upd (addT ps H) t o) kvs as:=by
  refine[():λj a p h3 h4=> ?_]
  have ma:=uX h3;rw [qh (λe=>ad (by rwa [<-e]))]
  refine addT_at ps H (a,[kV p.1,p.2]) (by rwa [ef]) ?_
  refine uX (i:=j) ?_;show(as.zip (kvs.map λp=> [kV p.1,p.2]))[j]? =_;rw [FV];exact⟨h3,by rw [uI,h4];rfl⟩
 refine⟨upd (addT ps H) t o,I.laidM k2 sm (λb u e1 Z=> ?_) htk,sm,aa,qg,it⟩;by_cases hb:b=t
 ·subst hb;rw [qg] at Z;cases Z;exact[ht:new _ sm it]
 ·rw [qh hb] at Z;have mb:b∈as:=by
   refine pM λm=> ?_;rw [XS ps H b (by rwa [ef]),e1] at Z
   cases Z
  exists uM hz (Uv (hG.above b mb));erw[List.mem_iff_getElem?.mp mb,j,hj];erw[hG.pairs j b hj,af,kk,x,f1,f2,f3];have U:j<kvs.length:=by
   have:=(Ai.mp f1).1;omega
  have e5:=it.2 j b kvs[j] hj (ur U);rw [qh hb,Z] at e5;cases e5;have q1:kvs[j].1=kk:=by
   have:(kvs.map (·.1))[j]? =u_ kk:=by rw [O.keys,uI,f1];rfl
   rw [uI,ur U] at this;exact uK this
  have q2:RelV kvs[j].2 x:=by
   exact(paired_at O (ur U) f1).2
  refine⟨by show 2<=Vb;decide,[af,x],.cons (by rw [q1];exact kV_rel f2) (.cons q2 .nil),⟨_,ac b mb _ f3,1,0⟩⟩
theorem eval_items {o:Expr}{to:TE}{apos cpos:Pos}{R:o6->o7->Prop}{Q:VK}(ho:PE X o to)(I:Inv X oq σ H s)(O:VZ o "items" X.env (eval o X.env)=eval o X.env)(U:(apos.endLine==cpos.line)=v_)
  (h:to σ H Q)
  (k:∀(s1:o7) (H1:Hp) (x:V),Inv X oq σ H1 s1->Q x H1->∃(d:o3) (kvs:oj (Key×V)),x= .ref d/\Rd H1 d (.dK kvs)/\R (.ref s1.heap.objs.size) {s1 with heap:=s1.heap.push {cls:= .type "dict_items",data:= .fields #[.ref d]}}):
  Va #[X,X] X.A (eval (.Call (.Attribute o "items" apos) [] [] cpos) X.env) R X.xe s:=by
 refine RK O U (thn (ho oq s σ H _ I h) λv s1 zq=> ?_);erw[zq,x,H1,Z,r1,q];erw[k s1 H1 x Z q,d,kvs,ex,hd,q2];subst ex;cases r1;erw[ZV Z.hok hd,hz,lo,vs,ac,dd];have aa:∀a,Vf d= .ref a->∃ob,s1.heap.get? a=u_ ob/\ob.dict=none:=dict_noDict Z (y:=kV (gU 0)) (.inl ⟨kvs,gU 0,hd,1,1⟩);exact⟨"dict","dict.items",Ug,PySem.F.slot_dict_items,PySem.F.type_dict_items,dd.typeIs,aa,vK rfl (PySem.evalArgs_none (GP PySem.F.slot_dict_items dd.typeIs PySem.F.entry_dict_items (PySem.F.args_dict_items_1 _) (meets_dict_items (Qe X.prog X.w) d lo) [[vs:dd]:q2]))⟩
end
def okHd:D->Bool
 | .non=>v_
 |d=>trD d
section
variable {X:Cx}
inductive rEqM (x:V) (y:V) (H:Hp) (Q:VK):Prop
 |mk (d:D) (z:Str) (_:Is H d x) (_:y= .str z) (_:z.length<=1000) (_:okHd d=v_) (_:dp d<=60) (_:Q (.bl (eqD d (.str z))) H)
theorem op_eqM (hu:X.A.units+64<Vj):OpR X (Vm .Eq) rEqM:=by
 intro oq s σ H x y v u Q I O U h;erw[h,d,z,hd,rfl,hz,Z,hp,q];cases d with
 |non=>
  cases(show x= .non from hd)
  exact QF oq s σ H .non (.str z) v u Q I O U ⟨1,by simpa [eqD] using q⟩
 |str a=>exact op_eqD hu oq s σ H x _ v u Q I O U ⟨_,.str z,hd,⟨1,by rw [uF];omega⟩,Z,1,hp,q⟩
 |tup a=>exact op_eqD hu oq s σ H x _ v u Q I O U ⟨_,.str z,hd,⟨1,by rw [uF];omega⟩,Z,1,hp,q⟩
 |_=>simp [okHd,trD] at Z
inductive rInM (K:PySem.W.Frag) (x:V) (y:V) (H:Hp) (Q:VK):Prop
 |mk (d:D) (p:Addr) (ls:List Str) (_:Is H d x) (_:y= .ref p) (_:(SqL K H p (ls.map V.str)∨SqT K H p (ls.map V.str))) (_:(∀z∈ls,z.length<=1000)) (_:okHd d=v_) (_:dp d<=60) (_:Q (.bl (ls.any λz=>eqD d (.str z))) H)
theorem flat_ss (us:oj Str):(us.map V.str).all Zw=true:=by
 rw [UM,U4];exact λ_ _=>rfl
theorem op_inM (hu:X.A.units+64<Vj):OpR X (Vm .In) (rInM X.K):=by
 intro oq s σ H x y v u Q I rx ry h;erw[h,d,p,ls,hd,rfl,O,ac,hk,hp,q];cases d with
 |non=>
  cases(show x= .non from hd)
  refine Qt oq s σ H .non _ v u Q I rx ry ⟨p,0,O,1,flat_ss _,?_⟩;have e:inV .non (ls.map V.str)=ls.any λz=>eqD .non (.str z):=by
   unfold inV;rw [HD]
   rfl
  rwa [A2 u5,e]
 |str a=>
  erw[hd,rfl,_];refine Qt oq s σ H _ _ v u Q I rx ry ⟨p,0,O,1,flat_ss _,?_⟩;have e:inV (.str a) (ls.map V.str)=ls.any λz=>eqD (.str a) (.str z):=by
   unfold inV;rw [HD];refine congrArg (λf=>ls.any f) (funext λz=> ?_);show(z==a)=(a==z);rw [vR,beq_iff_eq,beq_iff_eq];exact eq_comm
  rwa [A2 u5,e]
 |tup xs=>
  have e:(ls.any λz=>eqD (.tup xs) (.str z))=false:=by
   rw [T2];intro z _;simp [eqD]
  rw [e] at q;erw[hd,pa,vs,rfl,ha,hl];cases rx;cases ry;erw[I.tuple (.inl (.of ha)),ad,ae,af,_];have ag:X.A.units<cLine:=by omega
  have U:∀{its:oj o6},Vals (ls.map V.str) its->∀w∈its,∀A:oh,A.units+1<Vj->Vr A s w (.ref pa) false:=by
   intro its r w Z A hA;erw[List.mem_iff_getElem?.mp Z,j,hj];have aa:j<ls.length:=by
    have:=(Ai.mp hj).1;have:=r.length;rw [uc] at this;omega
   obtain⟨u',e1,e2⟩:=r.get (i:=j) (x:=V.str ls[j]) (by rw [uI,ur aa];rfl)
   rw [hj] at e1;cases e1;have:=eqAt_D I 1 (.str ls[j]) (.tup xs) (.str ls[j]) (.ref pa) _ (.ref pa) A (by simp [dp]) rfl (by simpa [okHd,trD,puD] using hk) ⟨1,by have:=ac _ (vi aa);rw [uF];omega⟩ ⟨pa,vs,1,ha,hl⟩ e2 rfl ()
   simpa [eqD] using this
  rcases O with O|O
  ·erw[I.list O,its,r,pl,hz];refine Fn (λ_=>V9) pl.isList (λw Z=>U r w (by simpa using Z) _ ?_) ⟨.bl _,H,I,1,?_⟩
   ·first|omega|(rw [uV];omega)|(rw [uV,uV];omega)|(rw [uV,uV,uV];omega)
   ·rw [show its.toArray.any (λ_=>V9)=V9 by rw [rS];exact List.any_eq_false.mpr λ_ _=>u5]
    exact q
  ·erw[I.tuple O,its,r,pl,hz];refine FQ (λ_=>V9) pl (λw Z=>U r w (by simpa using Z) _ ?_) ⟨.bl _,H,I,1,?_⟩
   ·first|omega|(rw [uV];omega)|(rw [uV,uV];omega)|(rw [uV,uV,uV];omega)
   ·rw [show its.toArray.any (λ_=>V9)=V9 by rw [rS];exact List.any_eq_false.mpr λ_ _=>u5]
    exact q
 |_=>simp [okHd,trD] at hk
end
end L2
namespace L2
open PySem PySem.Spec PyProof.Rows Builtin Builtin.Str
def tCallX (P:o9)(w:og)(K:o0)(mg:Str->om o6)(base:o8)(k:Nat)(tf:TE)(t:TA):TE:=λσ H Q=>tf σ H λv H1=>∃(f:o3) (fd:Vd) (ps:oj Str) (sp:Sp),v= .ref f/\
 FnOk P w K mg base CX0 k f fd ps sp/\zD K fd ps []/\PySem.W.keepIn K (.ref f)=v_/\t σ H1 λvs H2=>sp vs H2 Q E0
theorem pe_callX {X:Cx}{o i e:Expr}{es:oj Expr}{O pos:Pos}{Z:TE}{t:TA}{k:Nat}{P:o9}{w:og}{K:o0}{mg:Str->om o6}{base:o8}(e1:X.prog=P/\X.w=w/\X.K=K/\X.mg=mg/\X.base=base)(hf:PE X (.Subscript o i O) Z)(hr:Room k X.A)(ha:PA X (e::es) t)
  (he:Ve (e::es) X.env=(V9,eval e X.env)::Ve es X.env) (U:(Vn pos (Ve es X.env)).any (·.1)=V9):
  PE X (.Call (.Subscript o i O) (e::es) [] pos) (tCallX P w K mg base k Z t):=by
 erw[e1,rfl,rfl,rfl,rfl,rfl];intro oq s σ H Q I h;show Va _ _ (do tQ pos (<-eval (.Subscript o i O) X.env) [] (Vn pos (Ve (e::es) X.env)) (Gm pos (Gg [] X.env))) _ _ s
 refine Ab (thn (hf oq s σ H _ I h) λu s1 zq=> ?_);erw[zq,v,H1,I1,rv,f,fd,ps,sp,ev,F,hb,hk,q];subst ev;obtain rfl:u=Vf f:=rv;refine UQ (h₀:=X.base) I1.ok.mod.kin hk (thn (ha pos oq s1 σ H1 _ I1 q) λus s2 ⟨vs,H2,I2,r,q2⟩=>[I2.kIn:?_]) he U;exact run_fn (ds:= []) (dvs:= []) F hr hb .nil qA I2 r (by rw [uW];exact q2)
theorem KN (z y:Str)(hi O:Nat):∀(l:oj Nat) (st:Array Nat×Nat),(VN l st (gY z y hi O)).run.fst.size<=st.fst.size+l.length
 | [],st=>uj _
 |a::l,st=>by
  rw [Ux];unfold gY;split
  ·refine uM (KN z y hi O l _) ?_;simp![RP,um];omega
  ·refine uM (KN z y hi O l _) ?_;simp![um];omega
theorem occ_len (z y:Str)(n:Nat):(occurrences z y 0 z.length n).length<=z.length+1:=by
 rw [RM];have:=KN z y z.length n (GG 0 (z.length+1-0)) (#[],0);rw [vo];refine uM this ?_;simp
def spG (z y:Str):oj Str:=if(decide (z.length<y.length)||decide (Vw z<Vw y))=v_ then [z] else if(occurrences z y 0 z.length (z.length+1)).isEmpty=v_ then [z] else partsBetween z (occurrences z y 0 z.length (z.length+1)) y.length
theorem spG_len (z y:Str):(spG z y).length<=z.length+2:=by
 unfold spG;have h:=occ_len z y (z.length+1);split
 ·simp
 ·split
  ·simp
  ·simp![partsBetween,uc,List.length_zip,um,uB,Uy];omega
variable {z:Str}
theorem spG_mem {y p:Str}(h:p∈spG z y):p.length<=z.length:=by
 unfold spG at h;split at h
 ·rw [Us] at h;subst h;exact uj _
 ·split at h
  ·rw [Us] at h;subst h;exact uj _
  ·simp![partsBetween,Ag] at h;erw[h,q,_,e];rw [<-e];exact strSub_length_le _ _ _
section
variable {X:Cx}
inductive rSplitG (x:V) (vs:List V) (H:Hp) (Q:VK):Prop
 |mk (z:_) (y:_) (_:x= .str z) (_:vs= [.str y]) (_:0<y.length) (_:z.length<=1000) (_:∀p,H p=U_->Q (.ref p) (upd H p (.lst ((spG z y).map V.str))))
theorem mt_splitG:MtM X "str.split" rSplitG:=by
 intro oq s σ H x vs v us Q I rx rv h;erw[h,z,y,rfl,rfl,hy,hz,q];erw[rx,t,rfl];erw[rv.one,u,rfl,t',rfl];have Z:z.length<=sizeLine:=by rw [uF];omega
 have O:(y.length==0)=false:=by simp;omega
 have one:spG z y= [z]->∀(T:Nat),0<T->EP X oq σ Q (.ref s.heap.objs.size) {s with heap:=s.heap.push {cls:= .type "list",data:= .seq [Vy z t].toArray},toks:=T}:=λe T hT=>by
  rw [e] at q;exact JM (ys:= [V.str z]) I (.cons (show RelV (V.str z) _ from[t:1]) .nil) (by show 1<=Vb;decide) q
 cases h1:(decide (z.length<y.length)||decide (Vw z<Vw y)) with
 |true=>
  refine vn vJ (vT _ _ _) vC (U7 _ _) (Rv z y t t' h1) ?_;exact one (by unfold spG;rw [Aa h1]) s.toks I.tk
 |false=>
  cases U:(occurrences z y 0 z.length (z.length+1)).isEmpty with
  |true=>
   refine vn vJ (vT _ _ _) vC (U7 _ _) (TF z y t t' h1 O U) ?_;exact one (by unfold spG;rw [A2 (by rw [h1];decide),Aa U]) s.toks I.tk
  |false=>
   have hl:=spG_len z y;have e:spG z y=partsBetween z (occurrences z y 0 z.length (z.length+1)) y.length:=by unfold spG;rw [A2 (by rw [h1];decide),A2 (by rw [U];decide)]
   rw [e] at q hl;refine vn vJ (vT _ _ _) vC (U7 _ _) (TD z y t t' h1 O U Z (by rw [uF];omega)) ?_
   exact JM I (Xf _ _) (by rw [uc,uF];omega) q
inductive rJoinT (K:PySem.W.Frag) (x:V) (vs:List V) (H:Hp) (Q:VK):Prop
 |mk (sep:Str) (p:Addr) (l:List Str) (_:x= .str sep) (_:vs= [.ref p]) (_:SqT K H p (l.map V.str)) (_:(l.map (·.length)).sum+l.length*sep.length<=1000000) (_:Q (.str (Vi sep l)) H)
theorem mt_joinT:MtM X "str.join" (rJoinT X.K):=by
 intro oq s σ H x vs v us Q I rx rv h;erw[h,sep,p,l,rfl,rfl,hp,hz,q];erw[rx,t,rfl];erw[rv.one,u,rfl,ru];cases ru;erw[I.tuple hp,its,r,pl,hl];erw[Wh r,ps,rfl,Z];have U:tooLong ((ps.map (·.1)).toArray.foldl (·+ ·.length+sep.length) 0)=false:=by
  rw [Z];have:=rf sep l;rw [this];unfold tooLong;refine uh ?_;rw [uF];omega
 refine vn F.slot_str_join (vT _ _ _) F.entry_str_join (F.args_str_join_2 _ _) (meets_str_join_tuple sep t p ps U) ⟨(let⟨o,h1,h2,n,h3⟩:=pl;⟨o,n,h1,h2,h3⟩),?_⟩;have O:(glued sep (ps.map (·.1))).length<=sizeLine:=Rf U
 match ps,Z,O with
 | [],Z,O=>
  subst Z;exact⟨O,.str _,H,I.tok _,⟨0⟩,q⟩
 | [a],Z,_=>
  subst Z;exact⟨.str _,H,I,[a.2:1],q⟩
 |a::b::r,Z,O=>
  subst Z;exists O,.str _,H,I.tok _,⟨0⟩;rw [TR];exact q
theorem sl_any:SlR X (λx lo hi H Q=>rSlS x lo hi H Q∨rSlG X.K x lo hi H Q):=sl_str.or wC
end
end L2
namespace L2
open PySem PySem.Spec PyProof.Rows
open Builtin.Int (intBits)
section
variable {X:Cx}
inductive rInK (K:PySem.W.Frag) (w:World) (x:V) (y:V) (H:Hp) (Q:VK):Prop
 |mk (z:_) (a:_) (r:_) (_:x= .str z) (_:y= .ref a) (_:KDict K w a) (_:PySem.W.nsIn K a z=u_ r) (_:Q (.bl r.isSome) H)
theorem op_inK:OpR X (Vm .In) (rInK X.K X.w):=by
 intro oq s σ H x y v u Q I U Z h;erw[h,z,a,r,rfl,rfl,[hs,es,n,O,hk],hn,q];erw[U,t,rfl];cases Z;have hm:=PySem.W.mapOf_K (prog:=X.prog) (w:=X.w) I.kIn O hk;refine FD (HR X.prog X.w z t) hs hm ⟨.bl r.isSome,H,I.tok _,?_,q⟩;rw [PySem.W.find_K O hn]
 rfl
end
end L2
namespace L2
open PySem PySem.Spec PyProof.Rows
mutual
def nD:D->Bool
 | .non=>v_
 | .str _=>v_
 | .int _=>v_
 | .tup xs=>nL xs
 |_=>V9
def nL:oj D->Bool
 | []=>v_
 |x::r=>nD x&&nL r
end
theorem WU:∀{xs:oj D}{j:Nat}{x:D},nL xs=v_->xs[j]? =u_ x->nD x=v_
 | [],_,_,_,e=>by simp at e
 |y::r,0,x,h,e=>by
  have h':nD y=v_/\nL r=true:=by simpa [nL] using h
  have:y=x:=by simpa using e
  exact this▸h'.1
 |y::r,j+1,x,h,e=>by
  have h':nD y=v_/\nL r=true:=by simpa [nL] using h
  exact WU h'.2 (by simpa using e)
mutual
def eqN:D->D->Bool
 | .non,.non=>v_
 | .str a,.str b=>a==b
 | .int a,.int b=>a==b
 | .tup xs,.tup ys=>eqNL xs ys
 |_,_=>V9
def eqNL:oj D->oj D->Bool
 | [],[]=>v_
 |x::r,y::q=>eqN x y&&eqNL r q
 |_,_=>V9
end
mutual
theorem jA:∀{d e:D},nD d=v_->(eqN d e=v_↔d=e)
 | .non,e,_=>by cases e<;>simp [eqN]
 | .str a,e,_=>by cases e<;>simp [eqN]
 | .int a,e,_=>by cases e<;>simp [eqN]
 | .tup xs,.tup ys,h=>by
  have:=eqNL_iff (xs:=xs) (ys:=ys) (by simpa [nD] using h)
  simp![eqN,this,D.tup.injEq]
 | .tup xs,.non,_=>by simp [eqN]
 | .tup xs,.bl _,_=>by simp [eqN]
 | .tup xs,.int _,_=>by simp [eqN]
 | .tup xs,.str _,_=>by simp [eqN]
 | .tup xs,.lst,_=>by simp [eqN]
 | .tup xs,.dct,_=>by simp [eqN]
 | .bl _,_,h=>by simp [nD] at h
 | .lst,_,h=>by simp [nD] at h
 | .dct,_,h=>by simp [nD] at h
theorem eqNL_iff:∀{xs ys:oj D},nL xs=v_->(eqNL xs ys=v_↔xs=ys)
 | [],[],_=>by simp [eqNL]
 | [],_::_,_=>by simp [eqNL]
 |_::_,[],_=>by simp [eqNL]
 |x::r,y::q,h=>by
  have h':nD x=v_/\nL r=true:=by simpa [nL] using h
  simp![eqNL,uw,jA h'.1,eqNL_iff h'.2,vx]
end
mutual
theorem Is.detN {H:Hp}:∀{d e:D}{v:V},nD d=v_->nD e=v_->Is H d v->Is H e v->d=e
 | .non,e,v,_,he,h1,h2=>by
  cases(show v= .non from h1)
  cases e with
  |non=>rfl
  |str b=>obtain⟨q,_⟩:=(show V.non=V.str b/\_ from h2);cases q
  |int b=>cases(show V.non=V.int b from h2)
  |tup ys=>erw[h2,p,us,q,_];cases q
  |_=>simp [nD] at he
 | .str a,e,v,_,he,h1,h2=>by
  obtain⟨rfl,_⟩:=(show v= .str a/\_ from h1)
  cases e with
  |non=>cases(show V.str a=V.non from h2)
  |str b=>obtain⟨q,_⟩:=(show V.str a=V.str b/\_ from h2);cases q;rfl
  |int b=>cases(show V.str a=V.int b from h2)
  |tup ys=>erw[h2,p,us,q,_];cases q
  |_=>simp [nD] at he
 | .int a,e,v,_,he,h1,h2=>by
  cases(show v= .int a from h1)
  cases e with
  |non=>cases(show V.int a=V.non from h2)
  |str b=>obtain⟨q,_⟩:=(show V.int a=V.str b/\_ from h2);cases q
  |int b=>cases(show V.int a=V.int b from h2);rfl
  |tup ys=>erw[h2,p,us,q,_];cases q
  |_=>simp [nD] at he
 | .tup xs,e,v,hd,he,h1,h2=>by
  erw[id h1,p,vs,rfl,Z,hl];cases e with
  |non=>cases(show V.ref p=V.non from h2)
  |str b=>obtain⟨q,_⟩:=(show V.ref p=V.str b/\_ from h2);cases q
  |int b=>cases(show V.ref p=V.int b from h2)
  |tup ys=>
   erw[h2,p',us,q,O,U];cases q;rw [Z] at O;cases O;rw [IsL.detN (by simpa [nD] using hd) (by simpa [nD] using he) hl U]
  |_=>simp [nD] at he
 | .bl _,_,_,hd,_,_,_=>by simp [nD] at hd
 | .lst,_,_,hd,_,_,_=>by simp [nD] at hd
 | .dct,_,_,hd,_,_,_=>by simp [nD] at hd
theorem IsL.detN {H:Hp}:∀{xs ys:oj D}{vs:oj V},nL xs=v_->nL ys=v_->IsL H xs vs->IsL H ys vs->xs=ys
 | [],[],_,_,_,_,_=>rfl
 | [],_::_,_,_,_,h1,h2=>by
  cases(show _= [] from h1)
  erw[h2,v,r,q,_];cases q
 |_::_,[],_,_,_,h1,h2=>by
  cases(show _= [] from h2)
  erw[h1,v,r,q,_];cases q
 |x::xs,y::ys,_,hd,he,h1,h2=>by
  erw[h1,v,r,rfl,Z,a2];erw[h2,v',r',q,b1,b2];cases q;have O:nD x=v_/\nL xs=true:=by simpa [nL] using hd
  have U:nD y=v_/\nL ys=true:=by simpa [nL] using he
  rw [Is.detN O.1 U.1 Z b1,IsL.detN O.2 U.2 a2 b2]
end
theorem k9:∀(xs ys:oj D),eqNL xs ys=((Vh (min xs.length ys.length)).all (λj=>eqN (xs.getD j .non) (ys.getD j .non))&&xs.length==ys.length)
 | [],[]=>by simp [eqNL]
 | [],_::_=>by simp [eqNL]
 |_::_,[]=>by simp [eqNL]
 |x::r,y::q=>by
  have O:=k9 r q;rw [um,um,show min (r.length+1) (q.length+1)=min r.length q.length+1 by omega,vZ,vy,UM]
  have e:(Vh (min r.length q.length)).all ((λj=>eqN ((x::r).getD j .non) ((y::q).getD j .non))∘T0)=(Vh (min r.length q.length)).all λj=>eqN (r.getD j .non) (q.getD j .non):=by congr 1
  rw [e];have U:(r.length+1==q.length+1)=(r.length==q.length):=by rw [vR];simp
  rw [U,Ft,<-O]
  rfl
section
variable {X:Cx}{oq:oj (o3×Obj)}{σ:St}{H:Hp}{s:o7}
variable {e:D}{u:V}{A:oh}
theorem eqAt_nonN (I:Inv X oq σ H s){b:o6}(U:nD e=v_)(h2:Is H e u)(O:RelV u b)(Z:A.units<Vj):Vr A s .none b (eqN .non e):=by
 cases e with
 |non=>
  cases(show u= .non from h2)
  cases O;exact h_ _
 |str y=>
  obtain⟨rfl,_⟩:=(show u= .str y/\_ from h2)
  erw[O,t2,rfl];exact RG _ _
 |int y=>
  cases(show u= .int y from h2)
  erw[O,t2,rfl];exact rR _ _
 |tup ys=>
  erw[id h2,p,us,rfl,hp,hl];cases O;erw[I.tuple (.inl (.of hp)),its,_,q,_];exact RU q Z
 |_=>simp [nD] at U
variable {z:Str}
theorem eqAt_strN (I:Inv X oq σ H s){t:Tok}{b:o6}(U:nD e=v_)(h2:Is H e u)(O:RelV u b)(Z:A.units<Vj):Vr A s (.str z t) b (eqN (.str z) e):=by
 cases e with
 |non=>
  cases(show u= .non from h2)
  cases O;exact Rp _ _
 |str y=>
  obtain⟨rfl,_⟩:=(show u= .str y/\_ from h2)
  erw[O,t2,rfl];exact HY _ _ _ _
 |int y=>
  cases(show u= .int y from h2)
  erw[O,t2,rfl];exact UP _ _ _ _
 |tup ys=>
  erw[id h2,p,us,rfl,hp,hl];cases O;erw[I.tuple (.inl (.of hp)),its,_,q,_];exact F0 _ _ q Z
 |_=>simp [nD] at U
theorem eqAt_intN (I:Inv X oq σ H s){z:Int}{t:Tok}{b:o6}(U:nD e=v_)(h2:Is H e u)(O:RelV u b)(Z:A.units<Vj):Vr A s (.int z t) b (eqN (.int z) e):=by
 cases e with
 |non=>
  cases(show u= .non from h2)
  cases O;exact rO _ _
 |str y=>
  obtain⟨rfl,_⟩:=(show u= .str y/\_ from h2)
  erw[O,t2,rfl];exact UO _ _ _ _
 |int y=>
  cases(show u= .int y from h2)
  erw[O,t2,rfl];exact tO _ _ _ _
 |tup ys=>
  erw[id h2,p,us,rfl,hp,hl];cases O;erw[I.tuple (.inl (.of hp)),its,_,q,_];exact rQ _ _ q Z
 |_=>simp [nD] at U
theorem parts_N {xs ys:oj D}{vs us:oj V}{its its':oj o6}{A:oh}(hd:nL xs=v_)(he:nL ys=v_)(hl:IsL H xs vs)(O:IsL H ys us)(rv:Vals vs its)(U:Vals us its')
  (ih:∀x∈xs,∀(e:D) (v u:V) (a b:o6),nD x=v_->nD e=v_->Is H x v->Is H e u->RelV v a->RelV u b->Vr A s a b (eqN x e)):
  ∀j (a1:j<its.toArray.size) (a2:j<its'.toArray.size),Vr A s its.toArray[j] its'.toArray[j] (eqN (xs.getD j .non) (ys.getD j .non)):=λj a1 a2=>by
 have l1:its.length=xs.length:=by rw [<-rv.length,hl.length]
 have l2:its'.length=ys.length:=by rw [<-U.length,O.length]
 have Z:j<xs.length:=by rw [<-l1];simpa using a1
 have j2:j<ys.length:=by rw [<-l2];simpa using a2
 obtain⟨v1,e1,i1⟩:=hl.get (i:=j) (d:=xs[j]) (by simp [Z])
 obtain⟨v2,e2,i2⟩:=O.get (i:=j) (d:=ys[j]) (by simp [j2])
 erw[rv.get e1,b1,f1,g1];erw[U.get e2,b2,f2,g2];have k1:its.toArray[j]=b1:=by
  have:=f1;rw [ur (by rwa [l1])] at this
  simpa using this
 have k2:its'.toArray[j]=b2:=by
  have:=f2;rw [ur (by rwa [l2])] at this
  simpa using this
 have d1:xs.getD j .non=xs[j]:=by simp [VP,Z]
 have d2:ys.getD j .non=ys[j]:=by simp [VP,j2]
 rw [k1,k2,d1,d2];exact ih _ (vi Z) _ _ _ _ _ (WU (j:=j) hd (by simp [Z])) (WU (j:=j) he (by simp [j2])) i1 i2 g1 g2
theorem eqAt_tupN (I:Inv X oq σ H s){xs:oj D}{e:D}{v u:V}{a b:o6}{A:oh}(hd:nD (.tup xs)=v_)(he:nD e=v_)(h1:Is H (.tup xs) v)(h2:Is H e u)(r1:RelV v a)(O:RelV u b)(hu:A.units<Vj)
  (ih:∀x∈xs,∀(e:D) (v u:V) (a b:o6),nD x=v_->nD e=v_->Is H x v->Is H e u->RelV v a->RelV u b->Vr A.in1 s a b (eqN x e)):Vr A s a b (eqN (.tup xs) e):=by
 erw[id h1,p,vs,rfl,hp,hl];cases r1;erw[I.tuple (.inl (.of hp)),its,rv,q,_];cases e with
 |non=>
  cases(show u= .non from h2)
  cases O;exact pL q hu
 |str y=>
  obtain⟨rfl,_⟩:=(show u= .str y/\_ from h2)
  erw[O,t2,rfl];exact TL _ _ q hu
 |int y=>
  cases(show u= .int y from h2)
  erw[O,t2,rfl];exact FE _ _ q hu
 |tup ys=>
  by_cases hv:V.ref p=u
  ·have:=Is.detN (e:= .tup ys) hd he h1 (hv▸h2);subst hv;cases O;rw [<-this,(jA hd).mpr rfl];exact h_ _
  ·erw[id h2,p',us,rfl,aa,U];cases O;erw[I.tuple (.inl (.of aa)),its',Z,q',_];have l1:its.length=xs.length:=by rw [<-rv.length,hl.length]
   have l2:its'.length=ys.length:=by rw [<-Z.length,U.length]
   have ac:=UY (e:=λj=>eqN (xs.getD j .non) (ys.getD j .non)) q q' hu (parts_N (by simpa [nD] using hd) (by simpa [nD] using he) hl U rv Z ih)
   have e1:eqN (.tup xs) (.tup ys)=((Vh (min its.toArray.size its'.toArray.size)).all (λj=>eqN (xs.getD j .non) (ys.getD j .non))&&its.toArray.size==its'.toArray.size):=by
    rw [uz,uz,l1,l2,<-k9];simp![eqN]
   rw [e1];exact F_ (λz=>hv (by rw [z])) ac
 |_=>simp [nD] at he
theorem eqAt_N (I:Inv X oq σ H s):∀(n:Nat) (d e:D) (v u:V) (a b:o6) (A:oh),dp d<=n->nD d=v_->nD e=v_->Is H d v->Is H e u->RelV v a->RelV u b->A.units+n<Vj->Vr A s a b (eqN d e):=by
 intro n
 induction n with
 |zero=>
  intro d e v u a b A hn hd U h1 h2 Z r2 hu;cases d with
  |non=>
   cases(show v= .non from h1)
   cases Z;exact eqAt_nonN I U h2 r2 hu
  |int z=>
   cases(show v= .int z from h1)
   erw[Z,t,rfl];exact eqAt_intN I U h2 r2 hu
  |str z=>simp [dp] at hn
  |tup xs=>simp [dp] at hn
  |_=>simp [nD] at hd
 |succ n ih=>
  intro d e v u a b A hn hd U h1 h2 Z r2 hu;have O:A.units<cLine:=U6 (V5 _ _) hu;cases d with
  |non=>
   cases(show v= .non from h1)
   cases Z;exact eqAt_nonN I U h2 r2 O
  |int z=>
   cases(show v= .int z from h1)
   erw[Z,t,rfl];exact eqAt_intN I U h2 r2 O
  |str z=>
   obtain⟨rfl,_⟩:=(show v= .str z/\_ from h1)
   erw[Z,t,rfl];exact eqAt_strN I U h2 r2 O
  |tup xs=>
   have hm:dpL xs<=n:=by
    have:dp (.tup xs)=1+dpL xs:=by simp![dp]
    omega
   exact eqAt_tupN I hd U h1 h2 Z r2 O λx hx e v u a b k1 k2 k3 k4 k5 k6=>ih x e v u a b A.in1 ((zV xs).mp hm x hx) k1 k2 k3 k4 k5 k6 (by rw [uV];omega)
  |_=>simp [nD] at hd
inductive rCmpN (g:Bool->Bool) (x:V) (y:V) (H:Hp) (Q:VK):Prop
 |mk (ds es:List D) (_:Is H (.tup ds) x) (_:Is H (.tup es) y) (_:nL ds=v_) (_:nL es=v_) (_:dpL ds<=60) (_:Q (.bl (g (eqNL ds es))) H)
variable {ds:oj D}{y:V}
theorem rc_N (I:Inv X oq σ H s){es:oj D}{x:V}{v u:o6}(h1:Is H (.tup ds) x)(h2:Is H (.tup es) y)(hn:nL ds=v_)(Z:nL es=v_)(hd:dpL ds<=60)(rx:RelV x v)(ry:RelV y u)(hu:X.A.units+64<Vj):
  TN X.A s v u (eqNL ds es)/\TQ X.A s v u (!eqNL ds es):=by
 erw[id h1,p,vs,rfl,hp,hl];erw[id h2,p',us,rfl,aa,O];cases rx;cases ry;erw[I.tuple (.inl (.of hp)),its,rv,q,_];erw[I.tuple (.inl (.of aa)),its',U,q',_];have l1:its.length=ds.length:=by rw [<-rv.length,hl.length]
 have l2:its'.length=es.length:=by rw [<-U.length,O.length]
 have pe:=parts_N (A:=X.A.in1) hn Z hl O rv U λx hx e v u a b k1 k2 k3 k4 k5 k6=>eqAt_N I 60 x e v u a b X.A.in1 ((zV ds).mp hd x hx) k1 k2 k3 k4 k5 k6 (by rw [uV];omega)
 have e1:=UY (e:=λj=>eqN (ds.getD j .non) (es.getD j .non)) q q' () pe
 have e2:=TW (e:=λj=>eqN (ds.getD j .non) (es.getD j .non)) q q' () pe
 rw [uz,uz,l1,l2,<-k9] at e1 e2;exact[e1:e2]
theorem op_eqN (U:X.A.units+64<Vj):OpR X (Vm .Eq) (rCmpN id):=by
 intro oq s σ H x y v u Q I Z ry h;erw[h,ds,es,h1,h2,hn,O,hd,q];exact(rc_N I h1 h2 hn O hd Z ry U).1 X.prog X.w X.xe _ ⟨.bl _,H,I,1,q⟩
theorem op_neTN (U:X.A.units+64<Vj):OpR X (Vm .NotEq) (rCmpN not):=by
 intro oq s σ H x y v u Q I Z ry h;erw[h,ds,es,h1,h2,hn,O,hd,q];exact(rc_N I h1 h2 hn O hd Z ry U).2 X.prog X.w X.xe _ ⟨.bl _,H,I,1,q⟩
end
structure FF (K:o0)(mg:Str->om o6)(x:Str)(st:Stmt)(ps:oj Str)(f:o3)(fd:Vd):Prop where
 F:Fun K x x st f fd
 b:zD K fd ps []
 m:mg x=u_ (.ref f)
structure FM (K:o0)(C:o3)(x q:Str)(st:Stmt)(ps:oj Str)(f:o3)(fd:Vd):Prop where
 F:Fun K x q st f fd
 b:zD K fd ps []
 h:Meth K C x f
def FZ (K:o0)(x q:Str)(st:Stmt)(f:o3):Prop:=∃(oc kV dc pm cd ct:o6) (od an:om o3) (sl:Array (om o6)),K.lookup f=u_ ⟨oc,od,.func (PySem.W.fnOf x q (Yr st) (yU st) (qj st) .none kV dc pm an cd ct),sl⟩/\PySem.W.codeIn K cd q=v_/\PySem.W.keepIn K (.ref f)=v_
def FZg (K:o0)(x:Str)(st:Stmt)(f:o3):Prop:=PySem.W.nsIn K Vv x=u_ (u_ (.ref f))/\FZ K x x st f
def FZm (K:o0)(C:o3)(x q:Str)(st:Stmt)(f:o3):Prop:=PySem.W.findIn K (.ref C) x=u_ (u_ (.ref f))/\PySem.W.isFn K (.ref f)=v_/\FZ K x q st f
def BOk (x q:Str)(st:Stmt)(ps:oj Str):Prop:=∀(kV doc pm:o6) (an:om o3) (cdv ct:o6) (us:oj o6),us.length=ps.length->gZ (PySem.W.fnOf x q (Yr st) (yU st) (qj st) .none kV doc pm an cdv ct) [us:[]]=pure (ps.zip us)
variable {K:o0}{h:o8}{mg:Str->om o6}{x:Str}{st:Stmt}{f:o3}
theorem Qh (X:K.In h)(G:h.Ns Vv mg)(z:FZg K x st f)(ps:oj Str)(O:BOk x x st ps):∃fd,FF K mg x st ps f fd:=by
 erw[z,a,oc,kV,dc,pm,U,ct,od,an,sl,l,c,k];have F:=fun_mk (st:=st) l c k;exact⟨_,F,F.binds O,uR X G a⟩
variable {C:o3}
theorem yQ {q:Str}(z:FZm K C x q st f)(ps:oj Str)(O:BOk x q st ps):∃fd,FM K C x q st ps f fd:=by
 erw[z,a,i,oc,kV,dc,pm,U,ct,od,an,sl,l,c,k];have F:=fun_mk (st:=st) l c k;exact⟨_,F,F.binds O,[a:i:k]⟩
theorem FF.law {ps:oj Str}{fd:Vd}(T:FF K mg x st ps f fd){y:Str}(h:∀(kV doc pm:o6) (an:om o3) (cdv ct u:o6),gZ (PySem.W.fnOf x x (Yr st) (yU st) (qj st) .none kV doc pm an cdv ct) [[u]:[]]=pure [(y,u)])(s:o7)(u:o6):Gn s fd [[u]:[]] [(y,u)]:=by
 erw[T.F.ex,oc,od,kV,doc,pm,an,cdv,ct,osl,rfl,lk,O];exact .of_eq (h kV doc pm an cdv ct u)
def txt? (u:o6):om Str:=match u with
 | .str z _=>u_ z
 |_=>U_
def TZ (K:o0)(q:o3)(l:oj Str):Prop:=∃(d:om o3) (i:Array o6) (n:Nat) (sl:Array (om o6)),K.lookup q=u_ ⟨.type "tuple",d,.seq i n,sl⟩/\i.toList.map txt? =l.map u_
theorem strs_of:∀{l:oj Str}{us:oj o6},us.map txt? =l.map u_->Vals (l.map V.str) us
 | [],[],_=> .nil
 |z::l,u::us,h=>by
  rw [ui,ui] at h;injection h with h1 h2
  cases u with
  |str y t=>
   have:y=z:=uK h1;subst this;exact .cons [t:1] (strs_of h2)
  |_=>cases h1
 | [],_::_,h=>by simp at h
 |_::_,[],h=>by simp at h
variable {H:Hp}{q:o3}{l:oj Str}
theorem TZ.sq (h:TZ K q l)(Z:l.length<=100):SqT K H q (l.map V.str):=by
 erw[h,d,its,n,sl,U,e];have O:its.size=l.length:=by rw [<-vo];simpa using congrArg VT e
 exact .inr ⟨_,its,n,U,1,1,by rw [O];exact Uv (Xy ()),strs_of e⟩
def TZn (K:o0)(a:o3)(x:Str)(l:oj Str):Prop:=∃q,PySem.W.nsIn K a x=u_ (u_ (.ref q))/\TZ K q l
end L2
namespace L2
open PySem PyProof.Rows
variable {σ:St}{H:Hp}
theorem qF {t u:TS}{D:Ends}(h:∀N:St->Hp->Prop,(∀O H',u D O H'->N O H')->t {D with nx:=N} σ H):tSeq t u D σ H:=h (u D) λ_ _ h=>h
mutual
def hvD (h:o8):D->o6->Prop
 | .non,v=>v= .none
 | .str z,v=>∃t,v= .str z t
 | .tup ds,v=>∃a o items n,v= .ref a/\h.get? a=u_ o/\o.cls= .type "tuple"/\o.data= .seq items n/\hvL h ds items.toList
 |_,_=>False
def hvL (h:o8):oj D->oj o6->Prop
 | [],vs=>vs= []
 |d::ds,vs=>∃v r,vs=v::r/\hvD h d v/\hvL h ds r
end
mutual
def kD:D->Bool
 | .non=>v_
 | .str _=>v_
 | .tup xs=>kL xs
 |_=>V9
def kL:oj D->Bool
 | []=>v_
 |x::r=>kD x&&kL r
end
mutual
theorem kD_n:∀{d:D},kD d=v_->nD d=v_
 | .non,_=>by simp [nD]
 | .str _,_=>by simp [nD]
 | .tup xs,h=>by
  have:=kL_n (xs:=xs) (by simpa [kD] using h)
  simpa [nD] using this
 | .bl _,h=>by simp [kD] at h
 | .int _,h=>by simp [kD] at h
 | .lst,h=>by simp [kD] at h
 | .dct,h=>by simp [kD] at h
theorem kL_n:∀{xs:oj D},kL xs=v_->nL xs=v_
 | [],_=>by simp [nL]
 |x::r,h=>by
  have h':kD x=v_/\kL r=true:=by simpa [kL] using h
  simp [nL,kD_n h'.1,kL_n h'.2]
end
end L2
namespace L2
open PySem PySem.Spec PyProof.Rows
section
variable {X:Cx}
inductive rEqA (x:V) (y:V) (H:Hp) (Q:VK):Prop
 |mk (d e:D) (_:Is H d x) (_:Is H e y) (_:kD d=v_) (_:kD e=v_) (_:dp d<=60) (_:Q (.bl (eqN d e)) H)
theorem op_eqA (hu:X.A.units+64<Vj):OpR X (Vm .Eq) rEqA:=by
 intro oq s σ H x y v u Q I O U h;erw[h,d,e,h1,h2,k1,k2,hd,q];have Z:X.A.units<cLine:=by omega
 cases d with
 |non=>
  cases(show x= .non from h1)
  cases e with
  |non=>
   cases(show y= .non from h2)
   exact QF oq s σ H .non .non v u Q I O U ⟨1,by simpa [eqN] using q⟩
  |str z=>
   obtain⟨rfl,_⟩:=(show y= .str z/\_ from h2)
   exact QF oq s σ H .non (.str z) v u Q I O U ⟨1,by simpa [eqN] using q⟩
  |tup ys=>
   erw[id h2,p,us,rfl,hp,hl];cases O;cases U;erw[I.tuple (.inl (.of hp)),its,_,tq,_];exact RQ tq Z X.prog X.w X.xe _ ⟨.bl V9,H,I,1,by simpa [eqN] using q⟩
  |_=>simp [kD] at k2
 |str z=>
  obtain⟨rfl,_⟩:=(show x= .str z/\_ from h1)
  cases e with
  |non=>
   cases(show y= .non from h2)
   exact QF oq s σ H (.str z) .non v u Q I O U ⟨1,by simpa [eqN] using q⟩
  |str w=>
   obtain⟨rfl,_⟩:=(show y= .str w/\_ from h2)
   refine QF oq s σ H (.str z) (.str w) v u Q I O U [1:?_];have e1:eqN (.str z) (.str w)=decide (V.str z=V.str w):=by
    simp![eqN];by_cases c:z=w
    ·subst c;simp
    ·simp [c]
   rwa [e1] at q
  |tup ys=>
   erw[id h2,p,us,rfl,hp,hl];erw[O,t,rfl];cases U;erw[I.tuple (.inl (.of hp)),its,_,tq,_];exact Fv _ _ tq Z X.prog X.w X.xe _ ⟨.bl V9,H,I,1,by simpa [eqN] using q⟩
  |_=>simp [kD] at k2
 |tup xs=>
  cases e with
  |non=>
   erw[id h1,p,us,rfl,hp,hl];cases(show y= .non from h2)
   cases O;cases U;erw[I.tuple (.inl (.of hp)),its,_,tq,_];exact pE tq Z X.prog X.w X.xe _ ⟨.bl V9,H,I,1,by simpa [eqN] using q⟩
  |str w=>
   erw[id h1,p,us,rfl,hp,hl];obtain⟨rfl,_⟩:=(show y= .str w/\_ from h2)
   cases O;erw[U,t,rfl];erw[I.tuple (.inl (.of hp)),its,_,tq,_];exact FL _ _ tq Z X.prog X.w X.xe _ ⟨.bl V9,H,I,1,by simpa [eqN] using q⟩
  |tup ys=>
   refine op_eqN hu oq s σ H x y v u Q I O U ⟨xs,ys,h1,h2,kL_n (by simpa [kD] using k1),kL_n (by simpa [kD] using k2),?_,by simpa [eqN] using q⟩
   have:dp (.tup xs)=1+dpL xs:=by simp![dp]
   omega
  |_=>simp [kD] at k2
 |_=>simp [kD] at k1
end
end L2
namespace L2
open PySem PyProof.Rows
theorem wf {xs:oj V}{us:oj o6}(r:Vals xs us):∀is:oj Nat,Vals (is.filterMap (xs[·]?)) (is.filterMap (us[·]?))
 | []=> .nil
 |i::is=>by
  rw [vW,vW];have U:=r.length;cases e:xs[i]? with
  |none=>
   have:us[i]? =none:=TY (by have:=List.getElem?_eq_none_iff.mp e;omega)
   rw [this];exact wf r is
  |some x=>
   erw[r.get e,u,O,g];rw [O];exact .cons g (wf r is)
section
variable {X:Cx}
inductive ItStp (K:PySem.W.Frag) (Q:VK) (x:V) (H2:Hp):Prop
 |mk (a:_) (xs:_) (_:x= .ref a) (_:SqL K H2 a xs) (_:∀ys p,ys.length<=xs.length->(∀y∈ys,y∈xs)->H2 p=U_->Q (.ref p) (upd H2 p (.lst ys)))
def tStp (K:o0)(te:TE)(tl:TO):TE:=λσ H Q=>te σ H λx H1=>tl σ H1 λ_ H2=>ItStp K Q x H2
theorem pe_stepL {e:Expr}{te:TE}{lo:om Expr}{tl:TO}{k:Int}{j pos p1 p2}(hk:k≠0)(he:PE X e te)(hl:PO X lo tl)(U:GK (.Slice lo U_ (u_ (.Constant (.int k) j p1)) p2) V9=λv u=>Hi [v,u] (VL v u)):PE X (.Subscript e (.Slice lo U_ (u_ (.Constant (.int k) j p1)) p2) pos) (tStp X.K te tl):=by
 intro oq s σ H Q I h;refine hZ (thn (he oq s σ H _ I h) λv s1 zq=> ?_);erw[zq,x,H1,I1,r1,q1];refine RN (thn (hl oq s1 σ H1 _ I1 q1) λvl s2 zq=> ?_);erw[zq,lv,H2,I2,pl,q2];rw [tj];refine uE ?_;rw [Fy];refine thn (qi (i:=k) oq s2 σ H2 (λy H3=>y= .int k/\H3=H2) I2 [1:1]) λu O h3=> ?_;erw[h3,y,H3,I3,r3,rfl,rfl];erw[r3,tk,rfl];erw[q2,a,xs,rfl,hH,q];cases r1;have I4:Inv X oq σ H3 {O with heap:=O.heap.push {cls:= .type "slice",data:= .fields #[vl,.none,.int k tk]}}:=I3.kept (t':=O.toks) λb ob q=>ue _ q
 erw[I4.list hH,its,r,Z,hz];have aa:its.toArray.size=xs.length:=by rw [uz];exact r.length.symm
 show Va #[X,X] X.A (Hw e (.Slice lo U_ (u_ (.Constant (.int k) j p1)) p2) (.ref a) (.ref O.heap.objs.size)) (EP X oq σ Q) X.xe {O with heap:=O.heap.push {cls:= .type "slice",data:= .fields #[vl,.none,.int k tk]}}
 refine HE (ops:= [.ref a,.ref O.heap.objs.size]) Z.isList.typeIs slot_list_getitem.lookup ?_ (by rw [U])
 refine RL (st:=u_ k) Z.isList (Fj ..) pl .none (.int k tk) (by simpa using hk) ?_ (by rwa [aa])
 have hsz:=slicePick_size_le its.toArray lv U_ (u_ k);unfold tF at hsz⊢;generalize sliceRange (VX lv U_ (u_ k) its.toArray.size).1 (VX lv U_ (u_ k) its.toArray.size).2.1 (VX lv U_ (u_ k) its.toArray.size).2.2=is at hsz⊢;have ep:is.filterMap (its.toArray[·]?)=is.filterMap (its[·]?):=by simp
 rw [ep] at hsz⊢;have vp:=wf r is;have ac:(is.filterMap (xs[·]?)).length<=xs.length:=by
  rw [vp.length];rwa [uz,uz,<-r.length] at hsz
 refine⟨.ref _,_,I4.laid (t':=O.toks) (o:= .lst (is.filterMap (xs[·]?))) (λb ob q=>ue _ q) (uj _) ⟨uM ac hz,_,(0),vp,uH _ rfl⟩,1,q _ _ ac (λy hy=> ?_) (I4.hok.fresh (uj _))⟩;erw[List.mem_filterMap.mp hy,i,_,hi];exact uX hi
end
end L2
namespace L2
open PySem PySem.Spec PyProof.Rows
section
variable {X:Cx}
theorem pe_lstItems {x:Str}{o:Expr}{to:TE}{p pos apos cpos:Pos}(hc:X.calm=v_)(hg:Gl X x)(hm:X.mg x=U_)(hv:Gi x=u_ (.type "list"))(ho:PE X o to)(hn:x≠"__name__")(ac:(x==("__debug__":Str))=V9)
  (O:VZ o "items" X.env (eval o X.env)=eval o X.env) (U:(apos.endLine==cpos.line)=v_)
  (he:Ve [.Call (.Attribute o "items" apos) [] [] cpos] X.env=(V9,eval (.Call (.Attribute o "items" apos) [] [] cpos) X.env)::Ve [] X.env) (ad:(Vn pos (Ve [] X.env)).any (·.1)=V9):
  PE X (.Call (.Name x p) [.Call (.Attribute o "items" apos) [] [] cpos] [] pos) (tItems .lst to):=by
 intro oq s σ H Q I h;refine Um (wy I hg hm hv ?_ hn ac);refine vE ?_ he ad;rw [he];show Va _ _ (t_ ((V9,eval (.Call (.Attribute o "items" apos) [] [] cpos) X.env)::Vn pos (Ve [] X.env))) _ _ s;refine U5 (eval_items ho I O U h ?_);rintro s1 H1 x I1 ⟨d,kvs,rfl,hd,q⟩;refine⟨d,kvs,1,hd,UC ?_⟩;erw[ZV I1.hok hd,hz,lo,vs,Z,dd];erw[id dd,o,es,ep,ho];have ae:s1.heap.DictAt (Qe X.prog X.w) d vs ep:=[o:es:ho];have aa:(s1.heap.push {cls:= .type "dict_items",data:= .fields #[.ref d]}).IsItemsView s1.heap.objs.size d:=⟨_,uH _ rfl,1,1⟩;refine vh (n:=1) I1.tk ?_;have hsz:s1.heap.objs.size<=(s1.heap.push {cls:= .type "dict_items",data:= .fields #[.ref d]}).objs.size:=by rw [vt];exact GJ _
 refine PySem.W.kdx_call (s:={s1 with heap:=s1.heap.push {cls:= .type "dict_items",data:= .fields #[.ref d]}}) (knd:=Qe X.prog X.w) (kvs:=vs) (ep:=ep) (I1.ok.hd hc) aa (ae.push _) (by rwa [<-Z.length]) λh' tk ah c as k1 kl k2 k3 ka htk=> ?_
 have ak:=Z.length;have k0:∀b u,s1.heap.get? b=u_ u->h'.get? b=u_ u:=λb u e=>k1 b u (ue _ e);have af:∀l:oj o3,Vals (l.map V.ref) (l.map Vf):=by
  intro l
  induction l with
  |nil=>exact .nil
  |cons a r ih=>exact .cons rfl ih
 obtain⟨H2,I2,sm,tn,ag,it⟩:=items_laid (h2:=h') (t:=(s1.heap.push {cls:= .type "dict_items",data:= .fields #[.ref d]}).objs.size) (o:= .lst (as.map V.ref)) (tk:=tk) I1 Z k0 k2 hsz k3 (λa _ u e=>e) hsz (λm=>vD _ (k3.above _ m)) ⟨0⟩ htk (λH' _ _=>⟨by rw [uc];omega,as.map Vf,c,af as,by rw [<-ka];exact kl⟩)
 exact⟨.ref _,H2,I2,1,q _ as H2 sm tn ag it⟩
end
section
variable {x q:Str}{st:Stmt}{a b c d:Str}
theorem bo1 (h:∀(kV doc pm:o6) (an:om o3) (cdv ct u:o6),gZ (PySem.W.fnOf x q (Yr st) (yU st) (qj st) .none kV doc pm an cdv ct) [[u]:[]]=pure [(a,u)]):BOk x q st [a]:=by
 intro k1 k2 k3 U k5 Z us O;rcases us with _|⟨u,_|⟨_,_⟩⟩
 ·cases O
 ·exact h k1 k2 k3 U k5 Z u
 ·cases O
theorem bo2 (h:∀(kV doc pm:o6) (an:om o3) (cdv ct u v:o6),gZ (PySem.W.fnOf x q (Yr st) (yU st) (qj st) .none kV doc pm an cdv ct) [[u,v]:[]]=pure [(a,u),(b,v)]):BOk x q st [a,b]:=by
 intro k1 k2 k3 U k5 Z us O;rcases us with _|⟨u,_|⟨v,_|⟨_,_⟩⟩⟩
 ·cases O
 ·cases O
 ·exact h k1 k2 k3 U k5 Z u v
 ·cases O
theorem bo3 (h:∀(kV doc pm:o6) (an:om o3) (cdv ct u v w:o6),gZ (PySem.W.fnOf x q (Yr st) (yU st) (qj st) .none kV doc pm an cdv ct) [[u,v,w]:[]]=pure [(a,u),(b,v),(c,w)]):BOk x q st [a,b,c]:=by
 intro k1 k2 k3 U k5 Z us O;rcases us with _|⟨u,_|⟨v,_|⟨w,_|⟨_,_⟩⟩⟩⟩
 ·cases O
 ·cases O
 ·cases O
 ·exact h k1 k2 k3 U k5 Z u v w
 ·cases O
theorem bo4 (h:∀(kV doc pm:o6) (an:om o3) (cdv ct u v w z:o6),gZ (PySem.W.fnOf x q (Yr st) (yU st) (qj st) .none kV doc pm an cdv ct) [[u,v,w,z]:[]]=pure [(a,u),(b,v),(c,w),(d,z)]):BOk x q st [a,b,c,d]:=by
 intro k1 k2 k3 U k5 Z us O;rcases us with _|⟨u,_|⟨v,_|⟨w,_|⟨z,_|⟨_,_⟩⟩⟩⟩⟩
 ·cases O
 ·cases O
 ·cases O
 ·cases O
 ·exact h k1 k2 k3 U k5 Z u v w z
 ·cases O
end
end L2
namespace L2
open PySem PyProof.Rows
def cl {α β:Type}(t:α->β->TS)(a:α)(b:β):TS:=t a b
section
variable {α β:Type}{t u:α->β->TS}{c:α->β->TT}{wi:α->β->TI}{g:α->β->TG}{a:α}{b:β}{D:Ends}{σ:St}{H:Hp}
theorem cl_i (h:let S:St:=σ;let D1:Ends:=D;cl t a b D1 S H):t a b D σ H:=h
theorem seq_oC (h:let S:St:=σ;let D1:Ends:=D;∀N:St->Hp->Prop,(∀O H',cl u a b D1 O H'->N O H')->let E:Ends:={D1 with nx:=N};cl t a b E S H):cl (λx y=>tSeq (t x y) (u x y)) a b D σ H:=h (u a b D) λ_ _ h=>h
theorem seq_0 (h:let S:St:=σ;let D1:Ends:=D;let E:Ends:={D1 with nx:=cl u a b D1};cl t a b E S H):cl (λx y=>tSeq (t x y) (u x y)) a b D σ H:=h
theorem if_C (h:let S:St:=σ;let D1:Ends:=D;c a b S H λk H1=>if k=v_ then cl t a b D1 S H1 else cl u a b D1 S H1):cl (λx y=>tIfS (c x y) (t x y) (u x y)) a b D σ H:=h
theorem while_C (h:let S:St:=σ;let D1:Ends:=D;∃W:Nat->St->Hp->Prop,(∃m,W m S H)/\∀m σ H,W m σ H->
 c a b σ H λk H1=>if k=v_ then∃N:St->Hp->Prop,(∀O H',N O H'->∃U,U<m/\W U O H')/\cl t a b {D1 with nx:=N,ct:=N,bk:=D1.nx} σ H1 else D1.nx σ H1):cl (λx y=>tWhile (c x y) (t x y)) a b D σ H:=h
theorem for_C (h:let S:St:=σ;let D1:Ends:=D;wi a b S H λJ H1=>∃W:Nat->Nat->St->Hp->Prop,(∃m,W 0 m S H1)/\∀i m σ H,W i m σ H->
 (J.stop i H/\D1.nx σ H)∨(J.go i H/\∃N:St->Hp->Prop,(∀O H',N O H'->∃U,U<m/\W (i+1) U O H')/\∀x H',J.yld i H x H'->g a b x σ H' λZ H2=>cl t a b {D1 with nx:=N,ct:=N,bk:=D1.nx} Z H2)):cl (λx y=>tFor (wi x y) (g x y) (t x y)) a b D σ H:=h
end
end L2
namespace K67
open PySem L2 PyProof.Rows
inductive A3 (p0 p1 p2:Prop):Prop
 |mk (_:p0) (_:p1) (_:p2)
inductive A4 (p0 p1 p2 p3:Prop):Prop
 |mk (_:p0) (_:p1) (_:p2) (_:p3)
inductive A5 (p0 p1 p2 p3 p4:Prop):Prop
 |mk (_:p0) (_:p1) (_:p2) (_:p3) (_:p4)
inductive A6 (p0 p1 p2 p3 p4 p5:Prop):Prop
 |mk (_:p0) (_:p1) (_:p2) (_:p3) (_:p4) (_:p5)
inductive A7 (p0 p1 p2 p3 p4 p5 p6:Prop):Prop
 |mk (_:p0) (_:p1) (_:p2) (_:p3) (_:p4) (_:p5) (_:p6)
inductive A8 (p0 p1 p2 p3 p4 p5 p6 p7:Prop):Prop
 |mk (_:p0) (_:p1) (_:p2) (_:p3) (_:p4) (_:p5) (_:p6) (_:p7)
inductive A9 (p0 p1 p2 p3 p4 p5 p6 p7 p8:Prop):Prop
 |mk (_:p0) (_:p1) (_:p2) (_:p3) (_:p4) (_:p5) (_:p6) (_:p7) (_:p8)
inductive E1 {t0:Type} (p:t0->Prop):Prop
 |mk (x0:t0) (h:p x0)
inductive E2 {t0 t1:Type} (p:t0->t1->Prop):Prop
 |mk (x0:t0) (x1:t1) (h:p x0 x1)
inductive E3 {t0 t1 t2:Type} (p:t0->t1->t2->Prop):Prop
 |mk (x0:t0) (x1:t1) (x2:t2) (h:p x0 x1 x2)
inductive E4 {t0 t1 t2 t3:Type} (p:t0->t1->t2->t3->Prop):Prop
 |mk (x0:t0) (x1:t1) (x2:t2) (x3:t3) (h:p x0 x1 x2 x3)
inductive E5 {t0 t1 t2 t3 t4:Type} (p:t0->t1->t2->t3->t4->Prop):Prop
 |mk (x0:t0) (x1:t1) (x2:t2) (x3:t3) (x4:t4) (h:p x0 x1 x2 x3 x4)
inductive E7 {t0 t1 t2 t3 t4 t5 t6:Type} (p:t0->t1->t2->t3->t4->t5->t6->Prop):Prop
 |mk (x0:t0) (x1:t1) (x2:t2) (x3:t3) (x4:t4) (x5:t5) (x6:t6) (h:p x0 x1 x2 x3 x4 x5 x6)
inductive E10 {t0 t1 t2 t3 t4 t5 t6 t7 t8 t9:Type} (p:t0->t1->t2->t3->t4->t5->t6->t7->t8->t9->Prop):Prop
 |mk (x0:t0) (x1:t1) (x2:t2) (x3:t3) (x4:t4) (x5:t5) (x6:t6) (x7:t7) (x8:t8) (x9:t9) (h:p x0 x1 x2 x3 x4 x5 x6 x7 x8 x9)
open Builtin.Int (intBits)
def top (i:Nat):Stmt:=PySem.Challenge.pw_askwright_k67_reasons_told.main.body.getD i (.Pass ⟨(0),(0),(0),(0)⟩)
abbrev wt:Stmt:=top 17
abbrev XQ:Stmt:=top 18
abbrev Z2:Stmt:=top 19
abbrev ZN:Stmt:=top 21
abbrev yS:Stmt:=top 22
abbrev xF:Stmt:=top 23
abbrev Z1:Stmt:=top 29
abbrev xl:Stmt:=top 30
abbrev Zz:Stmt:=top 31
abbrev Jt:Stmt:=top 32
abbrev xh:Stmt:=top 33
abbrev zm:Stmt:=top 34
abbrev ZQ:Stmt:=top 35
abbrev xT:Stmt:=top 38
abbrev xM:Stmt:=top 39
abbrev xi:Stmt:=top 40
abbrev zC:Stmt:=top 41
abbrev zx:Stmt:=top 42
abbrev xU:Stmt:=top 43
abbrev Jy:Stmt:=top 44
abbrev xI:Stmt:=top 45
abbrev xu:Stmt:=top 46
abbrev zj:Stmt:=top 47
abbrev xv:Stmt:=top 48
abbrev Yv:Stmt:=top 50
abbrev Yg:Stmt:=top 51
abbrev Y0:Stmt:=Qj (top 52) 0
abbrev js:Stmt:=Qj (top 52) 1
abbrev Yj:Stmt:=Qj (top 52) 2
abbrev YI:Stmt:=Qj (top 52) 3
abbrev YC:Stmt:=Qj (top 52) 6
abbrev Q8:Stmt:=Qj (top 52) 7
abbrev Yi:Stmt:=Qj (top 52) 8
abbrev Y3:Stmt:=Qj (top 52) 9
abbrev Jf:Stmt:=Qj (top 54) 0
abbrev jH:Stmt:=Qj (top 54) 1
abbrev jX:Stmt:=Qj (top 54) 2
abbrev Y8:Stmt:=Qj (top 54) 3
abbrev Jd:Stmt:=Qj (top 54) 4
abbrev jY:Stmt:=Qj (top 54) 5
abbrev yO:Stmt:=Qj (top 55) 0
abbrev QR:Stmt:=Qj (top 55) 1
abbrev QP:Stmt:=Qj (top 55) 2
abbrev yA:Stmt:=Qj (top 55) 3
abbrev yh:Stmt:=Qj (top 55) 4
abbrev yi:Stmt:=Qj (top 55) 5
abbrev yH:Stmt:=Qj (top 55) 6
abbrev yI:Stmt:=Qj (top 55) 7
abbrev QQ:Stmt:=Qj (top 55) 8
abbrev Ye:Stmt:=top 56
abbrev xS:Stmt:=top 57
abbrev JB:Stmt:=top 58
abbrev jw:Stmt:=top 59
abbrev Jr:Stmt:=top 60
abbrev Jj:Stmt:=top 61
abbrev xx:Stmt:=top 62
abbrev zu:Stmt:=top 63
abbrev KB:Stmt:=top 65
abbrev X0:Stmt:=top 66
abbrev KF:Stmt:=top 67
abbrev Y2:Stmt:=top 68
abbrev xG:Stmt:=top 71
abbrev yX:Stmt:=Qj (top 72) 0
abbrev jl:Stmt:=Qj (top 72) 1
abbrev yk:Stmt:=Qj (top 72) 2
abbrev QN:Stmt:=Qj (top 72) 3
abbrev ju:Stmt:=top 73
abbrev jo:Stmt:=top 75
abbrev wz:Stmt:=top 76
abbrev zl:Stmt:=top 77
abbrev zB:Stmt:=top 78
abbrev JD:Stmt:=top 79
abbrev JL:Stmt:=top 80
abbrev xH:Stmt:=top 81
abbrev JF:Stmt:=top 82
abbrev Jm:Stmt:=top 83
abbrev jv:Stmt:=top 84
abbrev jy:Stmt:=top 85
abbrev Y4:Stmt:=top 86
abbrev jt:Stmt:=top 87
abbrev wI:Stmt:=top 88
abbrev xn:Stmt:=top 89
abbrev s_law:Stmt:=top 90
set_option genInjectivity false in
set_option genSizeOf false in
structure Ad where
 f_is_text:o3
 d_is_text:Vd
 f_is_tree:o3
 d_is_tree:Vd
 f_is_name:o3
 d_is_name:Vd
 f_is_pair:o3
 d_is_pair:Vd
 je:o3
 ji:Vd
 wT:o3
 ZL:Vd
 f_part_of:o3
 d_part_of:Vd
 ZJ:o3
 wQ:Vd
 f_row_of:o3
 d_row_of:Vd
 Zj:o3
 Zg:Vd
 Wg:o3
 Z7:Vd
 kt:o3
 W6:Vd
 f_is_rule:o3
 d_is_rule:Vd
 xr:o3
 we:Vd
 xL:o3
 w6:Vd
 xN:o3
 wM:Vd
 zi:o3
 Wu:Vd
 zf:o3
 WR:Vd
 xp:o3
 wx:Vd
 j3:o3
 Zf:Vd
 xO:o3
 Wc:Vd
 xj:o3
 Z4:Vd
 zA:o3
 WG:Vd
 xt:o3
 wn:Vd
 Jc:o3
 JA:Vd
 jK:o3
 jO:Vd
 Y1:o3
 xf:Vd
 XD:o3
 Xg:Vd
 jR:o3
 jJ:Vd
 JC:o3
 Jq:Vd
 j7:o3
 Jb:Vd
 Yk:o3
 Yl:Vd
 jP:o3
 jM:Vd
 J4:o3
 J8:Vd
 Jg:o3
 Zi:Vd
 XT:o3
 XU:Vd
 zQ:o3
 zK:Vd
 J1:o3
 J6:Vd
 zI:o3
 Zb:Vd
 zO:o3
 zP:Vd
 yR:o3
 jg:Vd
 yx:o3
 yu:Vd
 yz:o3
 yy:Vd
 YT:o3
 YW:Vd
 YD:o3
 YH:Vd
 YK:o3
 Yw:Vd
 YN:o3
 YS:Vd
 YU:o3
 YY:Vd
 yr:o3
 yw:Vd
 jL:o3
 jN:Vd
 wq:o3
 ZY:Vd
 zH:o3
 Zk:Vd
 Xs:o3
 Xi:Vd
 zR:o3
 Zh:Vd
 zJ:o3
 zZ:Vd
 wF:o3
 Z6:Vd
 WA:o3
 Wx:Vd
 f_stands:o3
 d_stands:Vd
 WH:o3
 Ww:Vd
 f_reason:o3
 d_reason:Vd
 J5:o3
 J7:Vd
 wJ:o3
 wO:Vd
 Y5:o3
 xc:Vd
 zd:o3
 zk:Vd
 YG:o3
 Yt:Vd
 YB:o3
 YA:Vd
 Xx:o3
 Xu:Vd
 XE:o3
 XV:Vd
 f_law_pot:o3
 d_law_pot:Vd
 kA:o3
 WS:Vd
 Wv:o3
 WN:Vd
 WK:o3
 kg:Vd
 ki:o3
 W0:Vd
 wU:o3
 ZS:Vd
 kz:o3
 WW:Vd
 Ze:o3
 Zd:Vd
 XO:o3
 XI:Vd
 XX:o3
 Xm:Vd
 JX:o3
 J2:Vd
 XL:o3
 Xv:Vd
 f_law_due:o3
 d_law_due:Vd
 ZK:o3
 wk:Vd
 f_law:o3
 d_law:Vd
 qo:o3
 qM:o3
 qm:o3
 qC:o3
structure Tx (K:o0)(mg:Str->om o6)(a:Ad):Prop where
 g_is_text:FF K mg "is_text" wt ["value"] a.f_is_text a.d_is_text
 g_is_tree:FF K mg "is_tree" XQ ["value"] a.f_is_tree a.d_is_tree
 g_is_name:FF K mg "is_name" Z2 ["value"] a.f_is_name a.d_is_name
 g_is_pair:FF K mg "is_pair" ZN ["value"] a.f_is_pair a.d_is_pair
 g_is_row_of_names:FF K mg "is_row_of_names" yS ["tree"] a.je a.ji
 g_is_answer:FF K mg "is_answer" xF ["ask","answer"] a.wT a.ZL
 g_part_of:FF K mg "part_of" Z1 ["kind","piece","count"] a.f_part_of a.d_part_of
 g_pieces_of:FF K mg "pieces_of" xl ["line","form"] a.ZJ a.wQ
 g_row_of:FF K mg "row_of" Zz ["line","count"] a.f_row_of a.d_row_of
 g_read_lines:FF K mg "read_lines" Jt ["value"] a.Zj a.Zg
 g_rule_rows:FF K mg "rule_rows" xh ["tree"] a.Wg a.Z7
 g_bad_line:FF K mg "bad_line" zm ["tree"] a.kt a.W6
 g_is_rule:FF K mg "is_rule" ZQ ["value"] a.f_is_rule a.d_is_rule
 g_text_made:FF K mg "text_made" xT ["boxes","own","parts"] a.xr a.we
 g_self_made:FF K mg "self_made" xM ["boxes","own","parts"] a.xL a.w6
 g_copy_made:FF K mg "copy_made" xi ["boxes","own","parts"] a.xN a.wM
 g_row_made:FF K mg "row_made" zC ["boxes","own","parts"] a.zi a.Wu
 g_put_made:FF K mg "put_made" zx ["boxes","own","parts"] a.zf a.WR
 g_join_made:FF K mg "join_made" xU ["boxes","own","parts"] a.xp a.wx
 g_first_made:FF K mg "first_made" Jy ["boxes","own","parts"] a.j3 a.Zf
 g_rest_made:FF K mg "rest_made" xI ["boxes","own","parts"] a.xO a.Wc
 g_size_made:FF K mg "size_made" xu ["boxes","own","parts"] a.xj a.Z4
 g_cut_made:FF K mg "cut_made" zj ["boxes","own","parts"] a.zA a.WG
 g_glue_made:FF K mg "glue_made" xv ["boxes","own","parts"] a.xt a.wn
 g_is_jump_taken:FF K mg "is_jump_taken" Yv ["boxes","word","parts"] a.Jc a.JA
 g_asked_or_fault:FF K mg "asked_or_fault" Yg ["word","held"] a.jK a.jO
 g_Machine_init:FM K a.qo "__init__" "Machine.__init__" Y0 ["self","rule","own"] a.Y1 a.xf
 g_Machine_now:FM K a.qo "now" "Machine.now" js ["self"] a.XD a.Xg
 g_Machine_answer:FM K a.qo "answer" "Machine.answer" Yj ["self","tree"] a.jR a.jJ
 g_Machine_asked:FM K a.qo "asked" "Machine.asked" YI ["self"] a.JC a.Jq
 g_Machine_go_on:FM K a.qo "go_on" "Machine.go_on" YC ["self"] a.j7 a.Jb
 g_Machine_is_waiting:FM K a.qo "is_waiting" "Machine.is_waiting" Q8 ["self"] a.Yk a.Yl
 g_Machine_do_row:FM K a.qo "do_row" "Machine.do_row" Yi ["self","row"] a.jP a.jM
 g_Machine_hold:FM K a.qo "hold" "Machine.hold" Y3 ["self","box","tree"] a.J4 a.J8
 g_Going_init:FM K a.qM "__init__" "Going.__init__" Jf ["self","name","source","order"] a.Jg a.Zi
 g_Going_begin:FM K a.qM "begin" "Going.begin" jH ["self","rule"] a.XT a.XU
 g_Going_look:FM K a.qM "look" "Going.look" jX ["self"] a.zQ a.zK
 g_Going_wanted:FM K a.qM "wanted" "Going.wanted" Y8 ["self"] a.J1 a.J6
 g_Going_take:FM K a.qM "take" "Going.take" Jd ["self","answer"] a.zI a.Zb
 g_Going_full:FM K a.qM "full" "Going.full" jY ["self"] a.zO a.zP
 g_PlainOrder_init:FM K a.qm "__init__" "PlainOrder.__init__" yO ["self","project"] a.yR a.jg
 g_PlainOrder_begin_anew:FM K a.qm "begin_anew" "PlainOrder.begin_anew" QR ["self","project"] a.yx a.yu
 g_PlainOrder_go_through:FM K a.qm "go_through" "PlainOrder.go_through" QP ["self","name"] a.yz a.yy
 g_PlainOrder_enter:FM K a.qm "enter" "PlainOrder.enter" yA ["self","name"] a.YT a.YW
 g_PlainOrder_settle:FM K a.qm "settle" "PlainOrder.settle" yh ["self","going"] a.YD a.YH
 g_PlainOrder_runner:FM K a.qm "runner" "PlainOrder.runner" yi ["self","rule","own"] a.YK a.Yw
 g_PlainOrder_leave:FM K a.qm "leave" "PlainOrder.leave" yH ["self","going"] a.YN a.YS
 g_PlainOrder_go_on:FM K a.qm "go_on" "PlainOrder.go_on" yI ["self","going"] a.YU a.YY
 g_PlainOrder_answer_yet:FM K a.qm "answer_yet" "PlainOrder.answer_yet" QQ ["self","name"] a.yr a.yw
 g_answer_at_once:FF K mg "answer_at_once" Ye ["source"] a.jL a.jN
 g_answer_by:FF K mg "answer_by" xS ["end"] a.wq a.ZY
 g_check_name:FF K mg "check_name" JB ["name"] a.zH a.Zk
 g_check_names:FF K mg "check_names" jw ["names"] a.Xs a.Xi
 g_order_from:FF K mg "order_from" Jr ["project","name"] a.zR a.Zh
 g_order_over:FF K mg "order_over" Jj ["project","names"] a.zJ a.zZ
 g_answer_of:FF K mg "answer_of" xx ["project","name"] a.wF a.Z6
 g_full_run:FF K mg "full_run" zu ["project","name"] a.WA a.Wx
 g_stands:FF K mg "stands" KB ["project","name"] a.f_stands a.d_stands
 g_standing:FF K mg "standing" X0 ["order","name"] a.WH a.Ww
 g_reason:FF K mg "reason" KF ["project","other","name"] a.f_reason a.d_reason
 g_first_unlike:FF K mg "first_unlike" Y2 ["asks","others"] a.J5 a.J7
 g_is_source:FF K mg "is_source" xG ["value"] a.wJ a.wO
 g_Project_init:FM K a.qC "__init__" "Project.__init__" yX ["self","sources"] a.Y5 a.xc
 g_Project_sources:FM K a.qC "sources" "Project.sources" jl ["self"] a.zd a.zk
 g_Project_source_of:FM K a.qC "source_of" "Project.source_of" yk ["self","name"] a.YG a.Yt
 g_Project_looked_up:FM K a.qC "looked_up" "Project.looked_up" QN ["self","ask"] a.YB a.YA
 g_longest_row:FF K mg "longest_row" ju ["names"] a.Xx a.Xu
 g_law_cell_at:FF K mg "_law_cell_at" jo ["script","k"] a.XE a.XV
 g_law_pot:FF K mg "_law_pot" wz ["cell","salt"] a.f_law_pot a.d_law_pot
 g_law_take:FF K mg "_law_take" zl ["pot","many"] a.kA a.WS
 g_law_word:FF K mg "_law_word" zB ["pot","names"] a.Wv a.WN
 g_law_line:FF K mg "_law_line" JD ["pot","names","many","k"] a.WK a.kg
 g_law_rule:FF K mg "_law_rule" JL ["pot","names"] a.ki a.W0
 g_law_maker:FF K mg "_law_maker" xH ["pot","names"] a.wU a.ZS
 g_law_leaf:FF K mg "_law_leaf" JF ["pot","names"] a.kz a.WW
 g_law_source:FF K mg "_law_source" Jm ["pot","names"] a.Ze a.Zd
 g_law_sources:FF K mg "_law_sources" jv ["script"] a.XO a.XI
 g_law_changed:FF K mg "_law_changed" jy ["pairs","pot","names"] a.XX a.Xm
 g_law_standing:FF K mg "_law_standing" Y4 ["project","name"] a.JX a.J2
 g_law_parting:FF K mg "_law_parting" jt ["project","other","name"] a.XL a.Xv
 g_law_due:FF K mg "_law_due" wI ["project","other","name"] a.f_law_due a.d_law_due
 g_law_chain:FF K mg "_law_chain" xn ["many","tree"] a.ZK a.wk
 g_law:FF K mg "law" s_law ["script"] a.f_law a.d_law
 qv:Cls K a.qo
 M_Machine:Mk K a.qo a.Y1
 m_Machine:mg "Machine"=u_ (.ref a.qo)
 y7:QJ K a.qo "rows"
 Wk:QJ K a.qo "rule"
 XN:QJ K a.qo "own"
 Qv:QJ K a.qo "boxes"
 Qm:QJ K a.qo "place"
 yd:QJ K a.qo "done"
 Yz:QJ K a.qo "given"
 qN:QJ K a.qo "there"
 qQ:Cls K a.qM
 M_Going:Mk K a.qM a.Jg
 m_Going:mg "Going"=u_ (.ref a.qM)
 y9:QJ K a.qM "name"
 Xo:QJ K a.qM "order"
 yF:QJ K a.qM "made_by"
 yN:QJ K a.qM "rule_asks"
 qX:QJ K a.qM "rule_run"
 QX:QJ K a.qM "end"
 qw:Cls K a.qm
 M_PlainOrder:Mk K a.qm a.yR
 m_PlainOrder:mg "PlainOrder"=u_ (.ref a.qm)
 Qf:QJ K a.qm "given_project"
 QB:QJ K a.qm "stack"
 Qx:QJ K a.qm "under_way"
 Qb:QJ K a.qm "full_runs"
 QC:QJ K a.qm "found"
 QZ:Cls K a.qC
 Wb:Mk K a.qC a.Y5
 ZM:mg "Project"=u_ (.ref a.qC)
 Q3:QJ K a.qC "by_name"
 m_MOST_SIGNS:∃t,mg "MOST_SIGNS"=u_ (.int 300 t)
 m_MOST_PARTS:∃t,mg "MOST_PARTS"=u_ (.int 40 t)
 m_MOST_SIZE:∃t,mg "MOST_SIZE"=u_ (.int 600 t)
 m_MOST_DEPTH:∃t,mg "MOST_DEPTH"=u_ (.int 12 t)
 zo:∃t,mg "MOST_NAME_SIGNS"=u_ (.int 24 t)
 m_LETTERS:∃t,mg "LETTERS"=u_ (.str "abcdefghijklmnopqrstuvwxyz" t)
 m_NAME_SIGNS:∃t,mg "NAME_SIGNS"=u_ (.str "abcdefghijklmnopqrstuvwxyz0123456789./" t)
 m_PERCENT:∃t,mg "PERCENT"=u_ (.int 37 t)
 m_MOST_LINES:∃t,mg "MOST_LINES"=u_ (.int 40 t)
 m_MOST_DONE:∃t,mg "MOST_DONE"=u_ (.int 300 t)
 m_MOST_NAMES:∃t,mg "MOST_NAMES"=u_ (.int 60 t)
 z_ord:mg "ord"=U_
 yK:mg "len"=U_
 qU:mg "isinstance"=U_
 JU:mg "str"=U_
 Qk:mg "tuple"=U_
 z_all:mg "all"=U_
 z_int:mg "int"=U_
 YE:mg "range"=U_
 z_zip:mg "zip"=U_
 z_dict:mg "dict"=U_
 z_sorted:mg "sorted"=U_
 z_abs:mg "abs"=U_
 z_min:mg "min"=U_
 z_sum:mg "sum"=U_
 z_list:mg "list"=U_
theorem WD:qu ["value","sign"] ["value"] (qj wt):=by trivial
theorem yo:qu ["value","size","waiting","pair","part","depth"] ["value"] (qj XQ):=by trivial
theorem sc_is_name:qu ["value"] ["value"] (qj Z2):=by trivial
theorem sc_is_pair:qu ["value"] ["value"] (qj ZN):=by trivial
theorem Xj:qu ["tree"] ["tree"] (qj yS):=by trivial
theorem sc_is_answer:qu ["ask","answer"] ["ask","answer"] (qj xF):=by trivial
theorem W7:qu ["kind","piece","count","numbers"] ["kind","piece","count"] (qj Z1):=by trivial
theorem sc_pieces_of:qu ["line","form"] ["line","form"] (qj xl):=by trivial
theorem jZ:qu ["line","count","word","form","pieces","parts"] ["line","count"] (qj Zz):=by trivial
theorem Yo:qu ["value","rows","line","row"] ["value"] (qj Jt):=by trivial
theorem zY:qu ["tree","read"] ["tree"] (qj xh):=by trivial
theorem sc_bad_line:qu ["tree"] ["tree"] (qj zm):=by trivial
theorem sc_is_rule:qu ["value"] ["value"] (qj ZQ):=by trivial
theorem sc_text_made:qu ["boxes","own","parts"] ["boxes","own","parts"] (qj xT):=by trivial
theorem sc_self_made:qu ["boxes","own","parts"] ["boxes","own","parts"] (qj xM):=by trivial
theorem sc_copy_made:qu ["boxes","own","parts"] ["boxes","own","parts"] (qj xi):=by trivial
theorem sc_row_made:qu ["boxes","own","parts"] ["boxes","own","parts"] (qj zC):=by trivial
theorem wS:qu ["boxes","own","parts","row"] ["boxes","own","parts"] (qj zx):=by trivial
theorem Je:qu ["boxes","own","parts","one","other"] ["boxes","own","parts"] (qj xU):=by trivial
theorem Xh:qu ["boxes","own","parts","whole"] ["boxes","own","parts"] (qj Jy):=by trivial
theorem Zl:qu ["boxes","own","parts","whole"] ["boxes","own","parts"] (qj xI):=by trivial
theorem sc_size_made:qu ["boxes","own","parts"] ["boxes","own","parts"] (qj xu):=by trivial
theorem xo:qu ["boxes","own","parts","whole","between"] ["boxes","own","parts"] (qj zj):=by trivial
theorem Jk:qu ["boxes","own","parts","row","between"] ["boxes","own","parts"] (qj xv):=by trivial
theorem Zv:qu ["boxes","word","parts"] ["boxes","word","parts"] (qj Yv):=by trivial
theorem zc:qu ["word","held"] ["word","held"] (qj Yg):=by trivial
theorem Z3:qu ["self","rule","own"] ["self","rule","own"] (qj Y0):=by trivial
theorem Wr:qu ["self"] ["self"] (qj js):=by trivial
theorem jk:qu ["self","tree","ask"] ["self","tree"] (qj Yj):=by trivial
theorem Zp:qu ["self"] ["self"] (qj YI):=by trivial
theorem Zn:qu ["self"] ["self"] (qj YC):=by trivial
theorem Jo:qu ["self"] ["self"] (qj Q8):=by trivial
theorem yL:qu ["self","row","word","parts"] ["self","row"] (qj Yi):=by trivial
theorem wm:qu ["self","box","tree"] ["self","box","tree"] (qj Y3):=by trivial
theorem Kh:qu ["self","name","source","order"] ["self","name","source","order"] (qj Jf):=by trivial
theorem Wl:qu ["self","rule"] ["self","rule"] (qj jH):=by trivial
theorem Kg:qu ["self"] ["self"] (qj jX):=by trivial
theorem wg:qu ["self"] ["self"] (qj Y8):=by trivial
theorem Kv:qu ["self","answer"] ["self","answer"] (qj Jd):=by trivial
theorem XR:qu ["self","asks"] ["self"] (qj jY):=by trivial
theorem XB:qu ["self","project"] ["self","project"] (qj yO):=by trivial
theorem jd:qu ["self","project"] ["self","project"] (qj QR):=by trivial
theorem QH:qu ["self","name","top","missing"] ["self","name"] (qj QP):=by trivial
theorem xw:qu ["self","name"] ["self","name"] (qj yA):=by trivial
theorem JT:qu ["self","going"] ["self","going"] (qj yh):=by trivial
theorem JO:qu ["self","rule","own"] ["self","rule","own"] (qj yi):=by trivial
theorem xg:qu ["self","going"] ["self","going"] (qj yH):=by trivial
theorem yn:qu ["self","going","ask","answer"] ["self","going"] (qj yI):=by trivial
theorem yp:qu ["self","name","at_once"] ["self","name"] (qj QQ):=by trivial
theorem zh:qu ["source"] ["source"] (qj Ye):=by trivial
theorem sc_answer_by:qu ["end"] ["end"] (qj xS):=by trivial
theorem Kw:qu ["name"] ["name"] (qj JB):=by trivial
theorem JZ:qu ["names","name"] ["names"] (qj jw):=by trivial
theorem Kq:qu ["project","name"] ["project","name"] (qj Jr):=by trivial
theorem jC:qu ["project","names","order","name"] ["project","names"] (qj Jj):=by trivial
theorem sc_answer_of:qu ["project","name"] ["project","name"] (qj xx):=by trivial
theorem ZT:qu ["project","name","order"] ["project","name"] (qj zu):=by trivial
theorem sc_stands:qu ["project","name"] ["project","name"] (qj KB):=by trivial
theorem wP:qu ["order","name","answer"] ["order","name"] (qj X0):=by trivial
theorem yG:qu ["project","other","name","one","two","names","places","asks","others","place","ask"] ["project","other","name"] (qj KF):=by trivial
theorem YF:qu ["asks","others","place"] ["asks","others"] (qj Y2):=by trivial
theorem sc_is_source:qu ["value"] ["value"] (qj xG):=by trivial
theorem yC:qu ["self","sources","by_name","name","source"] ["self","sources"] (qj yX):=by trivial
theorem JQ:qu ["self","name"] ["self","name"] (qj yk):=by trivial
theorem JP:qu ["self","ask"] ["self","ask"] (qj QN):=by trivial
theorem y6:qu ["names","row","name"] ["names"] (qj ju):=by trivial
theorem Ws:qu ["script","k"] ["script","k"] (qj jo):=by trivial
theorem Yq:qu ["cell","salt","step","big","k"] ["cell","salt"] (qj wz):=by trivial
theorem wB:qu ["pot","many","digit"] ["pot","many"] (qj zl):=by trivial
theorem wp:qu ["pot","names","some"] ["pot","names"] (qj zB):=by trivial
theorem ym:qu ["pot","names","many","k","words","word","one","two","three","at"] ["pot","names","many","k"] (qj JD):=by trivial
theorem jx:qu ["pot","names","body","many","lines"] ["pot","names"] (qj JL):=by trivial
theorem YZ:qu ["pot","names","asked","lines"] ["pot","names"] (qj xH):=by trivial
theorem ZW:qu ["pot","names","kind"] ["pot","names"] (qj JF):=by trivial
theorem XC:qu ["pot","names","kind"] ["pot","names"] (qj Jm):=by trivial
theorem ye:qu ["script","names","pairs","k","cell"] ["script"] (qj jv):=by trivial
theorem yV:qu ["pairs","pot","names","found","k","name"] ["pairs","pot","names"] (qj jy):=by trivial
theorem Jp:qu ["project","name","found"] ["project","name"] (qj Y4):=by trivial
theorem Q9:qu ["project","other","name","one","two","longer","k"] ["project","other","name"] (qj jt):=by trivial
theorem jc:qu ["project","other","name","way","numbers","k","ask"] ["project","other","name"] (qj wI):=by trivial
theorem Ja:qu ["many","tree","pairs","k"] ["many","tree"] (qj xn):=by trivial
theorem YO:qu ["script","many","due","names","pairs","pot","turn","after","project","other","name","found"] ["script"] (qj s_law):=by trivial
structure Ga where
 (boxes asking forms makers br bn:o3)
def NOMK:oj Str:= ["ask","has","names","go","like","rowed","none","say","fault"]
structure Fx (K:o0)(w:og)(mg:Str->om o6)(g:Ga)(a:Ad):Prop where
 m_BOXES:mg "BOXES"=u_ (.ref g.boxes)
 m_ASKING:mg "ASKING"=u_ (.ref g.asking)
 m_FORMS:mg "FORMS"=u_ (.ref g.forms)
 m_MAKERS:mg "MAKERS"=u_ (.ref g.makers)
 boxes:∀H,SqT K H g.boxes (BX.map V.str)
 asking:∀H,SqT K H g.asking [.str "ask",.str "has",.str "names"]
 kd:KDict K w g.forms
 forms:∀x∈FRM,∃q,PySem.W.nsIn K g.forms x.1=u_ (u_ (.ref q))/\∀H,SqT K H q (x.2.map λk=>V.str k.t)
 km:KDict K w g.makers
 k_text:PySem.W.nsIn K g.makers "text"=u_ (u_ (.ref a.xr))
 k_self:PySem.W.nsIn K g.makers "self"=u_ (u_ (.ref a.xL))
 k_copy:PySem.W.nsIn K g.makers "copy"=u_ (u_ (.ref a.xN))
 k_row:PySem.W.nsIn K g.makers "row"=u_ (u_ (.ref a.zi))
 k_put:PySem.W.nsIn K g.makers "put"=u_ (u_ (.ref a.zf))
 k_join:PySem.W.nsIn K g.makers "join"=u_ (u_ (.ref a.xp))
 k_first:PySem.W.nsIn K g.makers "first"=u_ (u_ (.ref a.j3))
 k_rest:PySem.W.nsIn K g.makers "rest"=u_ (u_ (.ref a.xO))
 k_size:PySem.W.nsIn K g.makers "size"=u_ (u_ (.ref a.xj))
 k_cut:PySem.W.nsIn K g.makers "cut"=u_ (u_ (.ref a.zA))
 k_glue:PySem.W.nsIn K g.makers "glue"=u_ (u_ (.ref a.xt))
 k_no:∀z∈NOMK,PySem.W.nsIn K g.makers z=u_ U_
 none_:∀z,xb z=U_->PySem.W.nsIn K g.forms z=u_ U_
 m_BadRule:mg "BadRule"=u_ (.ref g.br)
 x_BadRule:PySem.W.excIn K g.br VE "ValueError.__new__"=v_
 m_BadName:mg "BadName"=u_ (.ref g.bn)
 x_BadName:PySem.W.excIn K g.bn VE "ValueError.__new__"=v_
variable {n:Nat}
theorem yD (h:n<=1000):n<=sizeLine:=Uv (Xy h)
theorem sml (h:Nat.ble n 1000=v_):n<=sizeLine:=yD (Nat.le_of_ble_eq_true h)
theorem fits (h:n<=16000000):n<=sizeLine:=by rw [uF];omega
variable {i:Int}
theorem xD {α:Type}{xs:oj α}{c:α}(h:atI xs i=u_ c):c∈xs:=by
 unfold atI at h;erw[Option.bind_eq_some_iff.mp h,j,_,e];exact uX e
variable {z:Str}
theorem okText_long (h:300<z.length):Qy z=false:=by
 unfold Qy;rw [uh ()]
 rfl
def isTx:D->Bool
 | .str z=>Qy z
 |_=>V9
inductive kj (vs:List V) (H:Hp) (Q:VK) (E_:XK):Prop
 |mk (v:_) (d:_) (_:vs= [v]) (_:Is H d v) (_:Q (.bl (isTx d)) H)
inductive W8 (vs:List V) (H:Hp) (Q:VK) (E_:XK):Prop
 |mk (v:_) (d:_) (_:vs= [v]) (_:Is H d v) (_:∀H',Same H H'->Q (.bl (isT d)) H')
def pr (p:D×Nat):D:= .tup [p.1,.int (p.2:Int)]
theorem okText_bad {i c:Nat}(h:z.cps[i]? =u_ c)(O:QD c=V9):Qy z=false:=by
 unfold Qy;have hm:c∈z.cps.toList:=by
  have:z.cps.toList[i]? =u_ c:=by simpa using h
  exact uX this
 have:z.cps.toList.all QD=false:=by
  rw [List.all_eq_false];exact⟨c,hm,by rw [O];exact u5⟩
 rw [this,tZ]
section
variable {P:o9}{w:og}{K:o0}{mg:Str->om o6}{base:o8}{a:Ad}
theorem W1 (T:Tx K mg a):#[K,1,a.f_is_text,a.d_is_text,["value"],kj]:=by
 exists 9,T.g_is_text,WD
 erw[h,v,d,rfl,hv,k];exists 3,%[@qL _ _ _ _ _ _ _ _ #[zp,#[QE,#[Qr,#[qz,#[Qa,2,rfl],T.qU,v9,#v[pv 0,#[Q6,.ty "str",T.JU,Uh]]]]],#[xa,#[qp,op_gt,#[qz,zG,T.yK,uJ,#v[pv 0]],#[k8,T.m_MOST_SIGNS],qB _]]].pt %[|#[qr,Jh]] qx,#[jf,#[pi_str,4,pv 0],#[qZ,(1),WD.nd],%[|@qL _ _ _ _ _ _ _ _ #[zp,#[qp,op_lt_str,pv 1,qk,qB _],#[zp,#[qp,op_gt_str,pv 1,qk,qB _],#[xa,#[qp,QF,#[qz,call_ord,T.z_ord,boot_ord,#v[pv 1]],#[k8,T.m_PERCENT],qB _]]]].pt %[|#[qr,Jh]] qx]]|#[qr,Jh]]
 exists 0,v,"str",tyD d,isStr d,1,hv.ty,jq d,0;cases d with
 |str z=>
  erw[hv,rfl,hz];refine iteF ?_
  exists 0,z,1,hz,_,0,1,0;refine ite2 (λc=> ?_) (λc=> ?_)
  ·have c':(300:Int)<(z.length:Int):=uA c;have e:isTx (.str z)=false:=okText_long ()
   rwa [e] at k
  ·have c':¬(300:Int)<(z.length:Int):=λq=>c (uf q)
   exists 0,z,1
   let J1_:Nat->L2.St->Hp->Prop:=λi σ H'=>(∃x,σ= [u_ (.str z),x])/\H'=H/\(z.cps.toList.take i).all QD=v_
   refine for_str J1_ [⟨0⟩:1:1] ?_ ?_
   ·rintro i c σ H' hc ⟨⟨x,rfl⟩,rfl,O⟩;have U:QD c=V9->Q (.bl V9) H':=λe=>by
     have e':isTx (.str z)=false:=okText_bad hc e;rwa [e'] at k
    exists 0,_,0,1,0;rw [show decide ((⟨#[c]⟩:Str).cps.toList<(" ":Str).cps.toList)=decide (c<32) from lt_one c 32]
    refine ite2 (λc1=> ?_) (λc1=> ?_)
    ·refine iteT (U ?_);have:=uA c1;unfold QD;rw [uh ()]
     rfl
    ·have aa:¬c<32:=λq=>c1 (uf q)
     exists 0,_,0,1,0;rw [show decide (("~":Str).cps.toList<(⟨#[c]⟩:Str).cps.toList)=decide (126<c) from one_gt c 126]
     refine ite2 (λc2=> ?_) (λc2=> ?_)
     ·refine iteT (U ?_);have:=uA c2;unfold QD;rw [uh (p:=c<=126) (),tZ]
      rfl
     ·have ac:¬126<c:=λq=>c2 (uf q)
      exists 0,0,1,1,0;refine ite2 (λc3=> ?_) (λc3=> ?_)
      ·have Z:c=37:=by
        have:=uA c3;have:=V.int.inj this;exact pJ this
       exact U (by subst Z;rfl)
      ·have Z:c≠37:=λq=>c3 (uf (by rw [q];rfl))
       exists ⟨0⟩,1;rw [vV,show z.cps.toList[i]? =u_ c by simpa using hc,UT,O]
       show(v_&&(QD c&&v_))=v_;unfold QD;rw [uf (),uf (p:=c<=126) (),uf Z]
       rfl
   ·rintro σ H' ⟨⟨x,rfl⟩,rfl,O⟩;have e:isTx (.str z)=true:=by
     show Qy z=v_;unfold Qy;rw [uT (by simp)] at O
     rw [O,uf ()]
     rfl
    rwa [e] at k
 |_=>exact iteT (iteT k)
theorem map_snoc {α β:Type}(f:α->β)(xs:oj α)(x:α):(xs++ [x]).map f=xs.map f++ [f x]:=by simp
theorem last_at {α:Type}(us:oj α)(x:α):(us++ [x])[(us++ [x]).length-1]? =u_ x:=by simp
theorem drop_last {α:Type}(us:oj α)(x:α):(us++ [x]).dropLast=us:=by simp
def Wt (v:V)(d:D)(H:Hp)(L:o3)(m:Nat)(σ:L2.St)(H':Hp):Prop:=
 ∃(n:Nat) (w:oj (D×Nat)) (ws:oj V) (x3 x4 x5:om V),σ= [u_ v,u_ (.int n),u_ (.ref L),x3,x4,x5]/\Same H H'/\H' L=u_ (.lst ws)/\IsL H' (w.map pr) ws/\G w n=isT d/\n<=600/\w.length<=1+40*n/\m=ndL (w.map (·.1))
theorem jh (T:Tx K mg a):#[K,2,a.f_is_tree,a.d_is_tree,["value"],W8]:=by
 have ZI:=#[W1,T];refine T.g_is_tree.F.ok yo () (λ_ _ _ _ H vs Q E hr h=> ?_)
 erw[h,v,d,rfl,hv,k];exists 3,%[#[qD,(1),yo.nd,qi],#[qD,(2),yo.nd,#[Qw,#v[#[qE,#v[pv 0,qi]]]]],#[jr,#[pt_truth,3,pv 2,(λ_=>rfl)],%[#[qD,(3),yo.nd,#[pe_bm0,9,uN,PySem.F.slot_list_pop,PySem.F.type_list_pop,mt_pop,pv 2,_,_]],#[qD,(4),yo.nd,#[qJ,qI,pv 3,qi]],#[qD,2,(5),4,yo.nd,rfl,GE rfl,#[qJ,qI,pv 3,qi],_,_],@qL _ _ _ _ _ _ _ _ #[pw_and,7,#[Qr,#[qz,#[Qa,2,rfl],T.qU,v9,#v[pv 4,#[Q6,.ty "tuple",T.Qk,vc]]]],#[pw_and1,4,#[qp,op_le,#[qz,KA,T.yK,uJ,#v[pv 4]],#[k8,T.m_MOST_PARTS],qB _]]].pt %[#[ps_aug,2,(1),6,yo.nd,rfl,Gx rfl,qi,ip_add,_]|#[qY,#[YL,uN,PySem.F.slot_list_extend,PySem.F.type_list_extend,mt_extend,pv 2,#v[#[Zm,["below","depth"],[5],lcsN (qj XQ) ["value","size","waiting","pair","part","depth"],#[KC,4,pv 4],(λ_ _ _ _ _ _=>#[qZ,(0),(show Vz (["below","depth"]:oj Str) by decide+kernel)]),(λ_ _ _ _ _ _=>#[qE,#v[pv 0,#[qV,QY,pv 1,qi]]])]]]]] %[|#[qL,#[Qr,#[qt,ZI,hr.mono (),T.g_is_text,#v[pv 4]]],%[|#[ps_aug,2,(1),6,yo.nd,rfl,Gx rfl,#[qV,QY,qi,#[qz,KA,T.yK,uJ,#v[pv 4]]],ip_add,_]],%[|#[qr,Jh]]]]|@qL _ _ _ _ _ _ _ _ #[zp,#[qp,op_gt,pv 5,#[k8,T.m_MOST_DEPTH],qB _],#[xa,#[qp,op_gt,pv 1,#[k8,T.m_MOST_SIZE],qB _]]].pt %[|#[qr,Jh]] qx]]|#[qr,Jh]]
 have no:∀{H':Hp}{w:oj (D×Nat)}{n:Nat},Same H H'->G w n=isT d->G w n=V9->Q (.bl V9) H':=λ{H' w n} sm e1 e2=>by
  have q:=k H' sm;rwa [<-e1,e2] at q
 exists 5
 refine[0:(sml rfl):λt1 h1=>[(sml rfl):λL hL=> ?_]];have s1:Same H (upd H t1 (.tup [v,.int 1])):=qf h1 _;have s2:Same H (upd (upd H t1 (.tup [v,.int 1])) L (.lst [.ref t1])):=s1.trans (qf hL _);have ah:H L=none:=s1.free hL;have i1:Is (upd H t1 (.tup [v,.int 1])) (pr (d,1)) (.ref t1):=Is.new (ds:= [d,.int 1]) ⟨v,0,hv,_,0,1,1⟩ h1
 exists Wt v d H L,⟨_,(0),[(d,1)],[.ref t1],U_,U_,U_,1,s2,qg,IsL.one (i1.mono (qf hL _).tk),G_start d,(),by simp,1⟩
 rintro m σ H' ⟨n,w,ws,x3,x4,x5,rfl,sm,hl,hw,hG,hn,am,rfl⟩
 exists 0,!ws.isEmpty,.inl [ws:SqL.of hl:1];rcases TC w with rfl|⟨w',⟨e,j⟩,rfl⟩
 ·cases(show ws= [] from hw)
  refine iteF ?_;have q:=k H' sm;rwa [<-hG,G_nil hn] at q
 ·rw [R8] at*;rw [map_snoc] at hw;erw[hw.unsnoc,us,x,rfl,hu,hx];have ne:(!(us++ [x]).isEmpty)=true:=by simp
  rw [ne];refine iteT ⟨λσ' ao=>∃m',m'<ndL ((w'++ [(e,j)]).map (·.1))/\Wt v d H L m' σ' ao,λ_ _ h=>h,?_⟩;have hm:ndL ((w'++ [(e,j)]).map (·.1))=ndL (w'.map (·.1))+nd e:=by
   rw [map_snoc,X6];simp [ndL]
  have aq:w'.length<=40*n:=by
   rw [uB,vq] at am;omega
  have lu:=hu.length;rw [uc] at lu
  exists 0,.inl [1:_:SqL.of hl],L,_,x,1,1,hl,last_at us x;rw [drop_last];have t2:Tk H' (upd H' L (.lst us)):=Tk.updL hl;have O:Same H (upd H' L (.lst us)):=λb o z=>by rw [qh (ql z ah)];exact sm b o z
  have ad:Is (upd H' L (.lst us)) (.tup [e,.int (j:Int)]) x:=hx.mono t2;have ae:IsL (upd H' L (.lst us)) (w'.map pr) us:=hu.mono t2;have U:upd H' L (.lst us) L=u_ (.lst us):=qg;generalize upd H' L (.lst us)=H2 at t2 O ad ae U⊢;clear t2 hl hx hu sm
  exists 5
  refine[0:xJ (i:=0) ad rfl λy hy=> ?_]
  exists 5
  refine[0:xJ (i:=1) ad rfl λy1 ap=> ?_];cases(show y1= .int (j:Int) from ap)
  show tSeq _ _ _ _ H2;refine qF λN0 n0=>n0 _ _ ?_;exists 8,BB,bb;have tail:∀(n':Nat) (w2:oj (D×Nat)) (aa:oj V) (H3:Hp),Same H H3->H3 L=u_ (.lst aa)->IsL H3 (w2.map pr) aa->(j<=12->n'<=600->G w2 n'=isT d)->(12<j∨600<n'->isT d=V9)->w2.length<=1+40*n'->ndL (w2.map (·.1))<ndL ((w'++ [(e,j)]).map (·.1))->
    BB [u_ v,u_ (V.int (n':Int)),u_ (V.ref L),u_ x,u_ y,u_ (V.int (j:Int))] H3:=by
   intro n' w2 aa H3 s3 l3 i3 g3 b3 ak m3;have al:isT d=V9->Q (.bl V9) H3:=λe=>by
    have q:=k H3 s3;rwa [e] at q
   refine bb _ _ ?_
   exists 0,_,0,1,0;refine ite2 (λc=>iteT (al (b3 (.inl ?_)))) (λc=>⟨0,_,0,1,0,?_⟩)
   ·have:=uA c;omega
   ·have c':¬(12:Int)<(j:Int):=λq=>c (uf q);refine ite2 (λc2=>al (b3 (.inr ?_))) (λc2=> ?_)
    ·have:=uA c2;omega
    ·have au:¬(600:Int)<(n':Int):=λq=>c2 (uf q);exact⟨_,m3,n',w2,aa,_,_,0,s3,l3,i3,g3 () (),(),ak,1⟩
  exists 0,y,"tuple",tyD e,X1 e,1,hy.ty,xQ e,0;cases e with
  |tup xs=>
   refine iteT ?_;erw[hy,a0,vs,rfl,ac,af];have lv:=af.length
   exists 0,_,vs.length,1,.inr [vs:SqT.of ac:1],_,0,1,0;refine ite2 (λc=> ?_) (λc=> ?_)
   ·have c':(vs.length:Int)<=40:=uA c
    exists 0,_,0,1
    exists 5
    refine⟨0,.inl [1:_:SqL.of U],0,a0,vs,1,SqT.of ac,λaw A0 ag=> ?_⟩;refine lc_tupS (tl:= [u_ (.int (j:Int))]) (λZ=> .tup [Z,.int ((j+1:Nat):Int)]) ac af (fits ()) ag (λZ x0 H3 R _ s3 i3 r=> ?_) λH3 ys s3 l3 i3=> ?_
    ·exists 5
     refine⟨0,0,_,0,1,(sml rfl),λp hp=> ?_⟩;exact r _ _ (qf hp _) (Is.new (ds:= [Z,.int ((j+1:Nat):Int)]) ⟨x0,0,i3,_,0,1,1⟩ hp)
    ·have ly:=i3.length;rw [uc] at ly;have eA:A0≠L:=λz=>by rw [z,U] at ag;cases ag
     exists L,A0,us,ys,1,1,s3 _ _ U,l3,fits ()
     have t4:Tk H3 (upd H3 L (.lst (us++ys))):=Tk.updL (s3 _ _ U);have em:(w'++xs.map λZ=>(Z,j+1)).map pr=w'.map pr++xs.map λZ=> .tup [Z,.int ((j+1:Nat):Int)]:=by
      rw [uu,uL];rfl
     have ef:(w'++xs.map λZ=>(Z,j+1)).map (·.1)=w'.map (·.1)++xs:=by
      rw [uu,uL]
      congr 1
      exact Hr xs
     refine tail (n+1) (w'++xs.map λZ=>(Z,j+1)) (us++ys) _ (λb o z=>by rw [qh (ql z ah)];exact s3 b o (O b o z)) qg (by rw [em];exact((ae.mono s3.tk).mono t4).append (i3.mono t4)) (λh1 h2=> ?_) (λh=> ?_) ?_ ?_
     ·rw [<-hG,G_tup () h1]
     ·rw [<-hG];rcases h with h|h
      ·exact G_deep h
      ·exact G_big1 h
     ·rw [uB,uc];omega
     ·rw [ef,hm,X6];simp![nd];omega
   ·have c':¬(vs.length:Int)<=40:=λq=>c (uf q)
    exists 0,_,.tup xs,1,(show Is _ (.tup xs) (.ref a0) from⟨a0,vs,1,ac,af⟩),0
    refine iteF ?_;refine no O hG (G_bad ?_);simp![good];rw [uh ()]
    rfl
  |str z=>
   refine iteF ?_;erw[hy,rfl,hz]
   exists 0,_,.str z,1,[1:hz],0;cases ht:Qy z with
   |false=>
    have e1:isTx (.str z)=false:=ht;rw [e1];refine iteF ?_;refine no O hG (G_bad ?_);simp![good];exact ht
   |true=>
    have e1:isTx (.str z)=true:=ht;rw [e1];refine iteT ?_
    exists 0,0,_,z.length,1,[hz:1],_,0,1,_,0,1;have en:(n:Int)+(1+(z.length:Int))=((n+(1+z.length):Nat):Int):=by omega
    show BB [u_ v,u_ (V.int ((n:Int)+(1+(z.length:Int)))),u_ (V.ref L),u_ x,u_ (V.str z),u_ (V.int (j:Int))] _;rw [en];refine tail (n+(1+z.length)) w' us _ O U ae (λh1 h2=> ?_) (λh=> ?_) () (by rw [hm];simp![nd];omega)
    ·rw [<-hG,G_str ht h1]
    ·rw [<-hG];rcases h with h|h
     ·exact G_deep h
     ·refine G_big ?_;simp![sz];omega
  |_=>
   refine iteF ?_
   exact⟨0,_,0,hy,0,iteF (no O hG (G_bad rfl))⟩
def LET:Str:="abcdefghijklmnopqrstuvwxyz"
def NSG:Str:="abcdefghijklmnopqrstuvwxyz0123456789./"
def nm (z:Str):Bool:=decide (1<=(z.length:Int))&&decide ((z.length:Int)<=24)&&inS ⟨#[z.cps.getD 0 0]⟩ LET&&(z.cps.toList.map λc=>inS ⟨#[c]⟩ NSG).all id
def isNm:D->Bool
 | .str z=>nm z
 |_=>V9
inductive sp_name (vs:List V) (H:Hp) (Q:VK) (E_:XK):Prop
 |mk (v:_) (d:_) (_:vs= [v]) (_:Is H d v) (_:∀H',Same H H'->Q (.bl (isNm d)) H')
theorem first_at (h:1<=z.length):atI z.cps.toList 0=u_ (z.cps.getD 0 0):=by
 have h':0<z.cps.size:=h;have q:z.cps.toList[0]? =u_ (z.cps.getD 0 0):=by simp [Array.getD,h']
 exact Qc q
theorem allMap (z:Str):(z.cps.toList.map λc=>V.bl (inS ⟨#[c]⟩ NSG))=(z.cps.toList.map λc=>inS ⟨#[c]⟩ NSG).map V.bl:=by
 rw [uL]
 rfl
theorem nm_len (h:¬(1<=(z.length:Int)/\(z.length:Int)<=24)):nm z=false:=by
 unfold nm;by_cases h1:1<=(z.length:Int)
 ·have h2:¬(z.length:Int)<=24:=λq=>h [h1:q];rw [uh h2];simp
 ·rw [uh h1];simp
theorem nm_first (h:inS ⟨#[z.cps.getD 0 0]⟩ LET=V9):nm z=false:=by
 unfold nm;rw [h];simp
theorem nm_rest (h1:1<=(z.length:Int))(h2:(z.length:Int)<=24)(h:inS ⟨#[z.cps.getD 0 0]⟩ LET=v_):nm z=(z.cps.toList.map λc=>inS ⟨#[c]⟩ NSG).all id:=by
 unfold nm;rw [h,uf h1,uf h2];simp
theorem X3 (T:Tx K mg a):#[K,1,a.f_is_name,a.d_is_name,["value"],sp_name]:=by
 exists 9,T.g_is_name,sc_is_name
 erw[h,x,d,rfl,hv,k];exists 3,%[@qL _ _ _ _ _ _ _ _ #[zp,#[QE,#[Qr,#[qz,#[Qa,2,rfl],T.qU,v9,#v[pv 0,#[Q6,.ty "str",T.JU,Uh]]]]],#[xa,#[QE,#[pt_chain,12,op_le,op_le,qi,#[qz,zG,T.yK,uJ,#v[pv 0]],#[k8,T.zo],_]]]].pt %[|#[qr,Jh]] qx,#[qL,#[qp,op_notIn_str,#[qJ,ix_str,pv 0,qi],#[pe_gS,4,_,T.m_LETTERS,_],#[w]],%[|#[qr,Jh]],qx]|#[qr,#[qz,#[wY,1,rfl],T.z_all,HW,#v[#[Zm,["sign"],[],lcs0,#[pi_str,4,pv 0],(λ_ _ _ _ _ _=>#[qZ,(0),(show Vz (["sign"]:oj Str) by decide+kernel)]),(λ_ _ _ _ _ _=>#[yJ,op_in_str,pv 0,#[pe_gS,4,_,T.m_NAME_SIGNS,_],#[w]])]]]]]
 exists 0,x,"str",tyD d,isStr d,1,hv.ty,jq d,0;cases hd:isStr d with
 |false=>
  refine iteT (iteT ?_);have:=k H (Same.refl H);have e:isNm d=false:=by cases d<;>first|rfl|simp [isStr] at hd
  rwa [e] at this
 |true=>
  obtain⟨z,rfl⟩:∃z,d= .str z:=by cases d<;>simp [isStr] at hd;exact⟨0⟩
  erw[hv,rfl,U];have k:∀H',Same H H'->Q (.bl (nm z)) H':=k;refine iteF ?_
  exists 0,z,1,U,_,0,1,0;have stop:nm z=V9->Q (.bl V9) H:=λe=>by
   have:=k H (Same.refl H);rwa [e] at this
  refine ite2 (λZ=> ?_) (λZ=> ?_)
  ·have aa:1<=(z.length:Int):=uA Z
   exists _,0,1,0;by_cases O:(z.length:Int)<=24
   ·rw [uf O];refine iteF ?_
    exists 0,_,_,0,1,U,first_at (),_,0,1,0
    cases e:inS ⟨#[z.cps.getD 0 0]⟩ LET with
    |false=>
     have e':(!(GR ("abcdefghijklmnopqrstuvwxyz":Str) ⟨#[z.cps.getD 0 0]⟩ 0 ("abcdefghijklmnopqrstuvwxyz":Str).length 1).isEmpty)=false:=e;rw [e'];refine iteT ?_;exact stop (nm_first e)
    |true=>
     have e':(!(GR ("abcdefghijklmnopqrstuvwxyz":Str) ⟨#[z.cps.getD 0 0]⟩ 0 ("abcdefghijklmnopqrstuvwxyz":Str).length 1).isEmpty)=true:=e;rw [e'];refine iteF ?_
     exists 5
     refine⟨0,z,1,λD hD=> ?_⟩;refine lc_str (λc=> .bl (inS ⟨#[c]⟩ NSG)) (U) hD (λi c H' R hc sm r=>⟨0,_,0,1,r⟩) λH' sm hl=> ?_
     exists D,z.cps.toList.map λc=>inS ⟨#[c]⟩ NSG,1,SqL.of (by rw [hl,allMap])
     have:=k H' sm;rwa [nm_rest aa O e] at this
   ·rw [uh O];refine iteT ?_;exact stop (nm_len λq=>O q.2)
  ·exists 0;refine iteT ?_;exact stop (nm_len λq=>Z (uf q.1))
end
def optD:om Pt->D
 |none=> .non
 |some p=>p.d
inductive sp_part (vs:List V) (H:Hp) (Q:VK) (E_:XK):Prop
 |mk (n:Nat) (kd:Kd) (z:Str) (_:vs= [.str kd.t,.str z,.int (n:Int)]) (_:n<=40) (_:z.length<=300) (_:∀(v:V) (H':Hp),Same H H'->Is H' (optD (y8 n kd z)) v->Q v H')
inductive sp_pieces (K:PySem.W.Frag) (vs:List V) (H:Hp) (Q:VK) (E_:XK):Prop
 |mk (z:Str) (ks:List Kd) (q:Addr) (_:vs= [.str z,.ref q]) (_:z.length<=300) (_:ks.length<=3) (_:SqT K H q (ks.map λk=>V.str k.t)) (_:∀p,H p=U_->Q (.ref p) (upd H p (.lst ((pcs ks z).map V.str))))
theorem Qq {c:Bool}{A B:Prop}(h:c=V9)(b:B):if c=v_ then A else B:=by rw [A2 (by rw [h];exact u5)];exact b
theorem QK {c:Bool}{A B:Prop}(h:c=v_)(a:A):if c=v_ then A else B:=by rw [Aa h];exact a
theorem X2 (ks:oj Kd):(ks.map λk=>V.str k.t)=(ks.map Kd.t).map V.str:=by rw [uL];rfl
theorem words_in (ks:oj Kd):inV (.str "words") (ks.map λk=>V.str k.t)=decide (Kd.words∈ks):=by
 rw [X2,xB,uZ,Ag];constructor
 ·rintro⟨k,O,e⟩;cases k with
  |words=>exact O
  |box=>exact absurd e ()
  |line=>exact absurd e ()
 ·intro h;exact[_:h:1]
theorem form_few:∀x∈FRM,x.2.length<=3:=by decide+kernel
theorem kX (h:z∉BX):y8 n .box z=none:=by
 unfold y8;exact A2 h
theorem Xn (h:z∈BX):y8 n .box z=u_ (.s z):=by
 unfold y8;exact Aa h
theorem Wn (h:z∉(Vh n).map λi:Nat=>(Vk (1+(i:Int)):Str)):y8 n .line z=none:=by
 unfold y8;rw [Tw,Ur];intro i hi e;exact h (Ag.mpr [i:hi:uA e])
theorem JY (h:z∈(Vh n).map λi:Nat=>(Vk (1+(i:Int)):Str)):∃j:Int,1<=j/\j<=n/\z=(Pt.n j).t/\y8 n .line z=u_ (.n j):=by
 erw[Ag.mp h,i,hi,e];unfold y8;cases O:(Vh n).find? λi:Nat=>decide ((Vk (1+(i:Int)):Str)=z) with
 |none=>exact absurd (uf e) (List.find?_eq_none.mp O i hi)
 |some j=>
  have h1:=Ht O;have h2:=List.mem_range.mp (Ua O);exact⟨1+(j:Int),(),(),(uA h1).symm,by show Fe _ _=_;rw [O];rfl⟩
section
variable {P:o9}{w:og}{K:o0}{mg:Str->om o6}{base:o8}{a:Ad}{g:Ga}
theorem ok_part (T:Tx K mg a)(C:Fx K w mg g a):#[K,1,a.f_part_of,a.d_part_of,["kind","piece","count"],sp_part]:=by
 exists 9,T.g_part_of,W7
 erw[h,n,kd,z,rfl,hn,hz,k];exists 3,%[#[qL,#[qp,QF,pv 0,qk,qB _],%[|#[qr,pv 1]],qx],#[qL,#[qp,QF,pv 0,qk,qB _],%[|#[qr,#[Q2,#[qp,Qt,pv 1,#[pe_gR,C.m_BOXES],#[w]],pv 1,qW]]],qx],#[ps_setLC,2,["number"],(1),[],(3),12,W7.nd,rfl,Gx rfl,lcs0,rfl,#[pi_range2,7,_,T.YE,#v[qi,#[qV,QY,pv 2,qi]],_,_],(λ_ _ _ _ _ _=>#[qZ,(0),(show Vz (["number"]:oj Str) by decide+kernel)]),(λ_ _ _ _ _ _=> @Yd _),(λ_ _ _ _ _ _=>#[qK,Q0,T.JU,Uh,#v[pv 0]]),_,_,_]|#[qr,#[Q2,#[qp,Qt,pv 1,pv 3,#[w]],#[qK,call_intS,T.z_int,boot_int,#v[pv 1]],qW]]]
 exists 0,1,0;cases kd with
 |words=>
  refine QK () [0:?_]
  exact k _ H (Same.refl _) [1:yD ()]
 |box=>
  refine Qq () ⟨0,1,0,?_⟩
  refine QK () ⟨0,g.boxes,0,.inr (C.boxes _),1,wA _,0,?_⟩
  rw [A2 u5,xB];refine ite2 (λc=> ?_) (λc=> ?_)
  ·have U:z∈BX:=uA c;rw [Xn U] at k;exact[0:k _ H (Same.refl _) [1:yD ()]]
  ·have U:z∉BX:=λq=>c (uf q);rw [kX U] at k;exact k _ H (Same.refl _) rfl
 |line=>
  refine Qq () ⟨0,1,0,?_⟩
  refine Qq () ?_
  exists 5
  refine⟨0,_,0,1,(1),(n:Int)+1,1,⟨(),(),(),()⟩,λL hL=> ?_⟩
  rw [show((n:Int)+1-1).toNat=n by omega]
  refine XG (lo:=1) (tl:= []) (λi ys H'=>ys=(Vh i).map (λi:Nat=>V.str (Vk (1+(i:Int))))/\Same H H') (fits ()) [1:qf hL _] ?_ ?_
  ·rintro i ys H' hi ⟨rfl,sm⟩ O Z R hR
   exists 5
   refine⟨0,0,?_,hR _ _ O [?_:?_]⟩
   ·have h1:(1+(i:Int)).natAbs<=41:=by omega
    have h2:=UI (1+(i:Int)).natAbs;omega
   ·rw [Hu,uu]
    rfl
   ·intro b o e;rw [qh (ql e hL)];exact sm b o e
  ·rintro ys H' ⟨rfl,sm⟩ O;have Z:(Vh n).map (λi:Nat=>V.str (Vk (1+(i:Int))))=((Vh n).map λi:Nat=>(Vk (1+(i:Int)):Str)).map V.str:=by rw [uL];rfl
   exists 5
   refine⟨0,0,L,0,.inl (SqL.of O),1,by rw [Z];exact wA _,0,?_⟩
   rw [A2 u5,Z,xB];refine ite2 (λc=> ?_) (λc=> ?_)
   ·erw[JY (uA c),j,j1,j2,rfl,ej];rw [ej] at k;have hj:=num_small j1 ()
    exact⟨0,_,j,1,KJ j1 (),uM hj.1 (),k _ _ sm rfl⟩
   ·rw [Wn λq=>c (uf q)] at k;exact k _ _ sm rfl
theorem ok_pieces (T:Tx K mg a):#[K,1,a.ZJ,a.wQ,["line","form"],(sp_pieces K)]:=by
 exists 9,T.g_pieces_of,sc_pieces_of,Z
 erw[h,z,ks,q,rfl,hz,hk,U,k];exists 3,%[#[qL,#[qp,Qt,qk,pv 1,#[w]],%[|#[qr,#[YL,uU,Uk,Ul,mt_splitN,pv 0,#v[qk,#[qz,qP,T.yK,uJ,#v[pv 1]]]]]],qx]|#[qr,#[YL,uU,Uk,Ul,mt_split,pv 0,#v[qk]]]]
 exists 5
 refine⟨0,q,0,.inr U,1,by rw [X2];exact wA _,0,?_⟩
 rw [A2 u5,words_in];unfold pcs at k;refine ite2 (λc=> ?_) (λc=> ?_)
 ·have O:Kd.words∈ks:=uA c;rw [Aa O] at k;have h0:0<ks.length:=List.length_pos_iff.mpr λe=>by rw [e] at O;simp at O
  exact⟨0,1,0,q,0,.inr U,_,ks.length,1,by rw [uc],(),h0,(),k⟩
 ·have O:Kd.words∉ks:=λz=>c (uf z);rw [A2 O] at k;exact⟨0,1,0,1,(),k⟩
def optR:om Rw->D
 |none=> .non
 |some r=>rowD r
def Qo (n:Nat):D->om Rw
 | .str z=>ZG n z
 |_=>U_
inductive sp_row_of (vs:List V) (H:Hp) (Q:VK) (E_:XK):Prop
 |mk (v:V) (d:D) (n:Nat) (_:vs= [v,.int (n:Int)]) (_:Is H d v) (_:n<=40) (_:∀(v':V) (H':Hp),Same H H'->Is H' (optR (Qo n d)) v'->Q v' H')
theorem rowOfD_bad:∀{d:D},isTx d=V9->Qo n d=U_
 | .str z,h=>by
  show ZG n z=U_;unfold ZG;exact A2 (by rw [show Qy z=V9 from h];exact u5)
 | .non,_=>rfl
 | .int _,_=>rfl
 | .bl _,_=>rfl
 | .lst,_=>rfl
 | .dct,_=>rfl
 | .tup _,_=>rfl
theorem txt_str:∀{d:D},isTx d=v_->∃z,d= .str z
 | .str z,_=>[z:1]
def jU (n:Nat)(ks:oj Kd)(zs:oj Str):oj (om Pt):=List.zipWith (y8 n) ks zs
theorem W4 {n:Nat}:∀{ks:oj Kd}{zs:oj Str},(jU n ks zs).any GQ=v_->Yh n ks zs=U_
 | [],_,h=>by simp [jU] at h
 |_::_,[],h=>by simp [jU] at h
 |k::ks,z::zs,h=>by
  rw [jU,tJ,UD,Hg] at h;unfold Yh;rcases h with h|h
  ·rw [Option.isNone_iff_eq_none.mp h]
  ·rw [W4 h];split
   ·rename_i h1 h2;cases h2
   ·rfl
theorem WJ {n:Nat}:∀{ks:oj Kd}{zs:oj Str},zs.length=ks.length->(jU n ks zs).any GQ=V9->∃ps,Yh n ks zs=u_ ps/\jU n ks zs=ps.map u_
 | [],[],_,_=>[[]:1:1]
 | [],_::_,hl,_=>by simp at hl
 |_::_,[],hl,_=>by simp at hl
 |k::ks,z::zs,hl,h=>by
  rw [jU,tJ,UD,tm] at h;obtain⟨ps,O,U⟩:=WJ (ks:=ks) (zs:=zs) (by simpa using hl) h.2
  cases e:y8 n k z with
  |none=>rw [e] at h;cases h.1
  |some p=>
   refine[p::ps:?_:?_]
   ·unfold Yh;rw [e,O]
   ·rw [jU,tJ,e,ui]
    congr 1
theorem vals_o {H:Hp}:∀{os:oj (om Pt)}{vs:oj V},L2.IsL H (os.map optD) vs->vs.all Zw=v_/\inV .non vs=os.any GQ
 | [],_,h=>by cases(show _= [] from h);exact[1:1]
 |q::ps,_,h=>by
  erw[h,v,r,rfl,h1,h2];erw[vals_o h2,U,Z];have O:Zw v=v_/\eqV v .non=q.isNone:=by
   cases q with
   |none=>cases(show v= .non from h1);exact[1:1]
   |some q=>
    cases q with
    |s z=>erw[h1,rfl,_];exact[1:1]
    |n i=>cases(show v= .int i from h1);exact[1:1]
  refine[?_:?_]
  ·rw [vy,O.1,U];rfl
  ·show(eqV v .non||inV .non r)=_
   rw [O.2,Z];rfl
theorem range_map {α:Type}(l:oj α)(h:α->D)(f:Nat->D)(O:∀i q,l[i]? =u_ q->f i=h q):(Vh l.length).map f=l.map h:=by
 apply List.ext_getElem
 ·simp
 ·intro i h1 h2;simp![uc,Tj] at h1;simp![List.getElem_map,List.getElem_range];exact O i l[i] (ur h1)
theorem ok_row_of (T:Tx K mg a)(C:Fx K w mg g a):#[K,2,a.f_row_of,a.d_row_of,["line","count"],sp_row_of]:=by
 have ZI:=#[W1,T];have Z:=#[ok_part,T,C];have O:=#[ok_pieces,T];refine T.g_row_of.F.ok jZ () (λ_ _ _ _ H vs Q E hr h=> ?_)
 erw[h,v,d,n,rfl,hv,hn,k];exists 3,%[#[qL,#[QE,#[Qr,#[qt,ZI,hr.mono (),T.g_is_text,#v[pv 0]]]],%[|#[qr,qW]],qx],#[qD,(2),jZ.nd,#[qJ,qI,#[YL,uU,PySem.F.slot_str_partition,PySem.F.type_str_partition,mt_part,pv 0,#v[qk]],qi]],#[qL,#[qp,op_notK,pv 2,#[pe_gR,C.m_FORMS],#[w]],%[|#[qr,qW]],qx],#[qD,(3),jZ.nd,#[qJ,ix_K,#[pe_gR,C.m_FORMS],pv 2]],#[qD,(4),jZ.nd,#[qt,O,hr.mono (),T.g_pieces_of,#v[pv 0,pv 3]]],#[qL,#[qp,op_ne,#[qz,qP,T.yK,uJ,#v[pv 4]],#[qV,QY,qi,#[qz,qP,T.yK,uJ,#v[pv 3]]],qB _],%[|#[qr,qW]],qx],#[qD,(5),jZ.nd,#[qK,qG,T.Qk,vc,#v[#[Zm,2,["kind","piece","count"],(2),[1],9,lcsN (qj Zz) ["line","count","word","form","pieces","parts"],rfl,#[pi_zip,9,_,T.z_zip,#v[pv 3,#[YR,sl_list,pv 4,#[YJ,qi],zw]],_,_],(λ_ _ _ _ _ _=>#[pg_tupK,1,K,3,(2),1,rfl,rfl,Yp #[qZ,(0),(show Vz (["kind","piece","count"]:oj Str) by decide+kernel)] (Yp #[qZ,(1),(show Vz (["kind","piece","count"]:oj Str) by decide+kernel)] kK),_,_]),(λ_ _ _ _ _ _=> @Yd _),(λ_ _ _ _ _ _=>#[qt,Z,hr.mono (),T.g_part_of,#v[pv 0,pv 1,pv 2]]),_]]]]|#[qr,#[Q2,#[qp,Qt,qW,pv 5,#[w]],qW,#[qE,#v[pv 2,pv 5]]]]]
 exists 0,v,d,1,hv,0;cases e0:isTx d with
 |false=>
  rw [rowOfD_bad e0] at k;exact QK rfl (k _ H (Same.refl _) rfl)
 |true=>
 erw[txt_str e0,z,rfl];erw[hv,rfl,aq];have ht:Qy z=true:=e0;have hz:z.length<=300:=by
  have U:=ht;unfold Qy at U;rw [uw,vj] at U;exact U.1
 have k:∀(v':V) (H':Hp),Same H H'->Is H' (optR (ZG n z)) v'->Q v' H':=k;refine Qq rfl ?_
 exists 5
 refine⟨0,1,0,1,(),λt1 x1 x2 g1=> ?_⟩
 exists t1,_,(0),0,1,SqT.of qg,1;have s1:Same H (upd H t1 (.tup [.str (hd z),.str x1,.str x2])):=qf g1 _;generalize upd H t1 (.tup [.str (hd z),.str x1,.str x2])=H1 at s1⊢;unfold ZG at k;rw [Aa ht] at k;cases ef:xb (hd z) with
 |none=>
  rw [ef] at k
  exact⟨0,hd z,g.forms,0,1,C.kd,C.none_ _ ef,0,QK rfl (k _ _ s1 rfl)⟩
 |some ks=>
 have hk:=X7 ef;rw [ef] at k;simp only at k;erw[C.forms _ hk,q,ag,aa];have hf:ks.length<=3:=form_few _ hk
 exists 0,hd z,g.forms,0,1,C.kd,ag,0;refine Qq rfl ?_
 exists 0,hd z,g.forms,_,.ref q,1,1,C.kd,ag,1
 exists 5
 refine⟨0,0,z,ks,q,1,hz,hf,aa _,λp2 g2=> ?_⟩;have s2:Same H1 (upd H1 p2 (.lst ((pcs ks z).map V.str))):=qf g2 _;have e2:(upd H1 p2 (.lst ((pcs ks z).map V.str))) p2=u_ (.lst ((pcs ks z).map V.str)):=qg;generalize upd H1 p2 (.lst ((pcs ks z).map V.str))=H2 at s2 e2⊢
 exists 0,p2,0,.inl (SqL.of e2),0,q,0,.inr (aa _),_,0,1,1,0;by_cases hl:(pcs ks z).length=1+ks.length
 case neg=>
  rw [A2 hl] at k;refine QK ?_ (k _ _ (s1.trans s2) rfl);rw [uc,uc];show(!decide (V.int _=V.int _))=v_;rw [uh]
  ·rfl
  ·intro q;have:((pcs ks z).length:Int)=1+(ks.length:Int):=V.int.inj q;omega
 rw [Aa hl] at k;refine Qq ?_ ?_
 ·rw [uc,uc,show((pcs ks z).length:Int)=1+(ks.length:Int) by omega]
  simp
 have ae:((pcs ks z).drop 1).length=ks.length:=by rw [vI];omega
 have ah:∀p∈(pcs ks z).drop 1,p.length<=300:=λp hp=>by
  have U:=ht;unfold Qy at U;rw [uw,vj] at U;exact(spl_ok U.1 U.2 p (Ts hp)).1
 exists 5
 refine⟨0,0,0,p2,0,SqL.of e2,λp3 g3=> ?_⟩;have ak:cutV ((pcs ks z).map V.str) (u_ 1) U_=((pcs ks z).drop 1).map V.str:=by
  rw [show(u_ (1:Int))=u_ (((1:Nat)):Int) from rfl,Wa (by rw [uc];omega),List.map_drop]
 rw [ak];generalize (pcs ks z).drop 1=zs at ae ah k⊢;have s3:Same H2 (upd H2 p3 (.lst (zs.map V.str))):=qf g3 _;have e3:(upd H2 p3 (.lst (zs.map V.str))) p3=u_ (.lst (zs.map V.str)):=qg;generalize upd H2 p3 (.lst (zs.map V.str))=H3 at s3 e3⊢;have am:(jU n ks zs).length=ks.length:=by rw [jU,List.length_zipWith];omega
 exists 5
 refine⟨q,p3,_,0,aa _,SqL.of e3,λA1 gA=> ?_⟩;refine lc_zip (K:=K) (tl:= [u_ (.int (n:Int))]) (xs:=ks.map λk:Kd=>V.str k.t) (ys:=zs.map V.str) (λi=>optD ((jU n ks zs).getD i U_)) (λH' _=>aa H') (λH' sm=>SqL.of (sm _ _ e3)) (by simp [ae]) (by rw [uc];exact yD ()) gA ?_ ?_
 ·intro i x y H4 R hx hy s4 hR;rw [uI] at hx hy;cases af:ks[i]? with
  |none=>rw [af] at hx;cases hx
  |some kd=>
   rw [af] at hx;cases hx;cases ac:zs[i]? with
   |none=>rw [ac] at hy;cases hy
   |some z1=>
    rw [ac] at hy;cases hy
    exists 5
    refine⟨0,0,0,n,kd,z1,1,hn,ah _ (uX ac),λv H5 s5 hv=>hR v H5 s5 ?_⟩;have e:(jU n ks zs).getD i U_=y8 n kd z1:=by simp [VP,jU,List.getElem?_zipWith,af,ac]
    simp![e];exact hv
 intro H5 vs s5 e5 h5;have al:L2.IsL H5 ((jU n ks zs).map optD) vs:=by
  rw [uc,<-am] at h5;rw [range_map (jU n ks zs) optD _ (λi q1 hi=>by simp [VP,hi])] at h5
  exact h5
 exists 5
 refine⟨A1,vs,1,.inl [SqL.of e5:λt6 g6=> ?_]⟩;have s6:Same H5 (upd H5 t6 (.tup vs)):=qf g6 _;have i6:Is (upd H5 t6 (.tup vs)) (.tup ((jU n ks zs).map optD)) (.ref t6):=Is.new al g6;have e6:(upd H5 t6 (.tup vs)) t6=u_ (.tup vs):=qg;generalize upd H5 t6 (.tup vs)=H6 at s6 i6 e6⊢;erw[vals_o al,f1,f2];have ad:=s1.trans (s2.trans (s3.trans (s5.trans s6)))
 exists 0,t6,vs,1,.inr (SqT.of e6),1,f1,0;rw [A2 u5,f2];refine ite2 (λc=> ?_) (λc=> ?_)
 ·rw [W4 c] at k;exact k _ _ ad rfl
 ·have c':(jU n ks zs).any GQ=false:=by
   cases h:(jU n ks zs).any GQ with
   |false=>rfl
   |true=>exact absurd h c
  erw[WJ ae c',ps,q1,q2];rw [q1] at k;rw [q2,uL] at i6
  exists 5
  refine⟨0,0,(sml rfl),λt7 g7=> ?_⟩;have ao:(hd z).length<=sizeLine:=by
   have ap:∀x∈FRM,x.1.length<=100:=by decide+kernel
   have:=ap _ hk;exact yD (by simp only at this;omega)
  exact k _ _ (ad.trans (qf g7 _)) (Is.new (ds:= [.str (hd z),.tup (ps.map Pt.d)]) ⟨_,0,[1:ao],_,0,i6,1⟩ g7)
theorem part_line {M:Nat}(hn:n<=40){k:Kd}{p:Pt}(h:ptOk n M k p):y8 n k p.t=u_ p:=by
 cases k with
 |words=>
  cases p with
  |s z=>rfl
  |n i=>cases h
 |box=>
  cases p with
  |s z=>exact Xn h
  |n i=>cases h
 |line=>
  cases p with
  |s z=>cases h
  |n i=>
   have h1:1<=i/\i<=n:=h;have hm:(Pt.n i).t∈(Vh n).map λi:Nat=>(Vk (1+(i:Int)):Str):=Ag.mpr ⟨(i-1).toNat,List.mem_range.mpr (),by show(Vk (1+(((i-1).toNat:Nat):Int)):Str)=Vk i;rw [show 1+(((i-1).toNat:Nat):Int)=i by omega]⟩
   erw[JY hm,j,U,j2,Z,e];rw [e];have b1:=KJ (i:=i) h1.1 ()
   have b2:=KJ (i:=j) U ()
   have O:(Vk i:Str)=Vk j:=Z;rw [O,b2] at b1;rw [uK b1]
theorem WB {n M:Nat}(hn:n<=40):∀{ks:oj Kd}{ps:oj Pt},xR n M ks ps->Yh n ks (ps.map Pt.t)=u_ ps
 | [],[],_=>rfl
 |k::ks,p::ps,h=>by
  rw [ui];unfold Yh;rw [part_line hn h.1,WB hn h.2]
 | [],_::_,h=>h.elim
 |_::_,[],h=>h.elim
variable {ks:oj Kd}
theorem form_line {w:Str}(h:(w,ks)∈FRM):xb w=u_ ks:=by
 cases e:xb w with
 |none=>exact absurd rfl (wX e _ h)
 |some O=>
  have:=form_nd _ (X7 e) _ h rfl;rw [(Prod.mk.inj this).2]
variable {r:Rw}
theorem rowOf_line {M:Nat}(hn:n<=40)(h:jS n M r)(Z:Qy (Ya r)=v_):ZG n (Ya r)=u_ r:=by
 have hh:=line_hd h;erw[h,ks,U,O];unfold ZG;rw [Aa Z,hh,form_line U];simp only;have hs:pcs ks (Ya r)=txs r:=line_spl hn U O;have hl:=Za O;rw [hs,Aa (by unfold txs;rw [um,uc];omega)]
 show Fe _ (Yh n ks (r.2.map Pt.t))=_;rw [WB hn O]
 rfl
def xk (rs:oj Rw):D:= .tup (rs.map λr=> .str (Ya r))
structure ya (rs:oj Rw):Prop where
 n0:1<=rs.length
 n1:rs.length<=40
 ok:∀r∈rs,jS rs.length 300 r
 tree:isT (xk rs)=v_
theorem goodL_mem:∀{ds:oj D}{d:D},goodL ds=v_->d∈ds->good d=v_
 |x::xs,d,h,hm=>by
  simp![goodL,uw] at h;rcases Ac.mp hm with rfl|hm
  ·exact h.1
  ·exact goodL_mem h.2 hm
variable {rs:oj Rw}
theorem ya.text (h:ya rs)(O:r∈rs):Qy (Ya r)=true:=by
 have h1:=h.tree;unfold isT at h1;rw [uw,uw] at h1;have h2:=h1.1.1;unfold xk at h2;simp![good,uw] at h2;have:=goodL_mem h2.2 (Ag.mpr [r:O:1])
 simpa only [good] using this
def Q7:D->om (oj Rw)
 | .tup ds=>if(decide (1<=ds.length)&&decide (ds.length<=40)&&ds.all (λd=>(Qo ds.length d).isSome)&&isT (.tup ds))=v_ then u_ (ds.filterMap (Qo ds.length)) else U_
 |_=>U_
theorem Xz (ds:oj D):Q7 (.tup ds)=if(decide (1<=ds.length)&&decide (ds.length<=40)&&ds.all (λd=>(Qo ds.length d).isSome)&&isT (.tup ds))=v_ then u_ (ds.filterMap (Qo ds.length)) else none:=rfl
theorem rows_back {n:Nat}:∀{rs:oj Rw},(∀r∈rs,Qo n (.str (Ya r))=u_ r)->(rs.map λr=>D.str (Ya r)).filterMap (Qo n)=rs
 | [],_=>rfl
 |r::rs,h=>by
  rw [ui,Ud (h r ug),rows_back λx O=>h x (ud _ O)]
theorem ya.rowD (h:ya rs)(O:r∈rs):Qo rs.length (.str (Ya r))=u_ r:=rowOf_line h.n1 (h.ok r O) (h.text O)
theorem ya.read (h:ya rs):Q7 (xk rs)=u_ rs:=by
 have Z:(rs.map λr=>D.str (Ya r)).length=rs.length:=uc ..;have U:=h.tree;unfold xk at U⊢;rw [Xz,Z,Aa]
 ·rw [rows_back λr O=>h.rowD O]
 ·rw [uf h.n0,uf h.n1,U,List.all_eq_true.mpr]
  ·rfl
  ·intro d hd;erw[Ag.mp hd,r,O,rfl];rw [h.rowD O]
   rfl
def RdOk (d x y:D):Prop:=(∀rs,Q7 d=u_ rs->x= .tup (rs.map L2.rowD)/\y= .non)/\(Q7 d=U_->∃i:Int,y= .int i)
inductive sp_read (vs:List V) (H:Hp) (Q:VK) (E_:XK):Prop
 |mk (v:V) (d:D) (_:vs= [v]) (_:Is H d v) (_:∀(u:V) (H':Hp) (x y:D),Same H H'->RdOk d x y->Is H' (.tup [x,y]) u->Q u H')
theorem rd_bad {d x:D}(h:Q7 d=U_):RdOk d x (.int i):=⟨λrs e=>(by rw [h] at e;cases e),λ_=>[i:1]⟩
theorem XF {α:Type}{o:om α}(h:o.isSome=v_):∃x,o=u_ x:=by cases o with
 |none=>cases h
 |some x=>exact[x:1]
variable {ds:oj D}
theorem rows_take {i:Nat}{d:D}(h1:ds[i]? =u_ d)(h2:Qo n d=u_ r):(ds.take (i+1)).filterMap (Qo n)=(ds.take i).filterMap (Qo n)++ [r]:=by
 rw [vV,h1,List.filterMap_append];simp [h2]
theorem rows_len {n:Nat}:∀{ds:oj D},(∀z∈ds,(Qo n z).isSome=v_)->(ds.filterMap (Qo n)).length=ds.length
 | [],_=>rfl
 |z::ds,h=>by
  erw[XF (h z ug),r,e];rw [Ud e,um,um];exact congrArg (·+1) (rows_len λy O=>h y (ud _ O))
theorem ok_read (T:Tx K mg a)(C:Fx K w mg g a):#[K,3,a.Zj,a.Zg,["value"],sp_read]:=by
 have yB:=#[jh,T];have aa:=#[ok_row_of,T,C];refine T.g_read_lines.F.ok Yo () (λ_ _ _ _ H vs Q E hr h=> ?_)
 erw[h,v,d,rfl,hv,k];exists 3,%[@qL _ _ _ _ _ _ _ _ #[zp,#[QE,#[Qr,#[qz,#[Qa,2,rfl],T.qU,v9,#v[pv 0,#[Q6,.ty "tuple",T.Qk,vc]]]]],#[xa,#[QE,#[pt_chain,12,op_le,op_le,qi,#[qz,qP,T.yK,uJ,#v[pv 0]],#[k8,T.m_MOST_LINES],_]]]].pt %[|#[qr,#[qE,#v[#[qE,qc],qi]]]] qx,#[qD,(1),Yo.nd,#[Qw,qc]],#[jf,#[pi_tup,4,pv 0],#[qZ,(2),Yo.nd],%[#[qD,(3),Yo.nd,#[qt,aa,hr.mono (),T.g_row_of,#v[pv 2,#[qz,qP,T.yK,uJ,#v[pv 0]]]]],#[qL,#[qp,Yb,pv 3,qW,qB _],%[|#[qr,#[qE,#v[#[qK,qG,T.Qk,vc,#v[pv 1]],#[qV,QY,#[qz,qP,T.yK,uJ,#v[pv 1]],qi]]]]],qx]|#[qY,#[YL,uN,vd,ve,yb,pv 1,#v[pv 3]]]]]|#[qr,#[qE,#v[#[qK,qG,T.Qk,vc,#v[pv 1]],#[Q2,#[Qr,#[qt,yB,hr.mono (),T.g_is_tree,#v[pv 0]]],qW,qi]]]]]
 exists 0,v,"tuple",_,X1 d,1,hv.ty,xQ d,0;have U:Q7 d=U_->∀(t:o3),H t=U_->∀t2,(upd H t (.tup [])) t2=U_->Q (.ref t2) (upd (upd H t (.tup [])) t2 (.tup [.ref t,.int 1])):=λhn t g t2 Z=>
  k _ _ (.tup []) (.int 1) ((qf g _).trans (qf Z _)) (rd_bad hn) (Is.new (ds:= [.tup [],.int 1]) ⟨_,0,Is.new (ds:= []) rfl g,_,0,1,1⟩ Z)
 cases ht:X1 d with
 |false=>
  have hn:Q7 d=none:=by
   cases d with
   |tup ds=>cases ht
   |_=>rfl
  exact iteT (iteT [(sml rfl):λt g1=>[(sml rfl):λt2 Z=>U hn t g1 t2 Z]])
 |true=>
 obtain⟨ds,rfl⟩:∃ds,d= .tup ds:=by
  cases d with
  |tup ds=>exact[ds:1]
  |_=>cases ht
 refine iteF ?_;have ad:=hv;erw[ad,va,us,rfl,ha,hu];have ae:us.length=ds.length:=hu.length
 exists 0,va,us,1,.inr (SqT.of ha),_,0,1,0;have no:¬(1<=ds.length/\ds.length<=40/\(∀z∈ds,(Qo ds.length z).isSome=v_)/\isT (.tup ds)=v_)->Q7 (.tup ds)=none:=λhc=>by
  unfold Q7;refine A2 λz=>hc ?_;simp![uw,vj,U4] at z;exact⟨z.1.1.1,z.1.1.2,z.1.2,z.2⟩
 by_cases c1:1<=ds.length
 case neg=>
  refine Qq (uh ()) [0:?_]
  exact iteT [(sml rfl):λt g1=>[(sml rfl):λt2 Z=>U (no λz=>c1 z.1) t g1 t2 Z]]
 refine QK (uf ()) ?_
 exists _,0,1,0;by_cases c2:ds.length<=40
 case neg=>
  refine QK (by rw [uh ()];rfl) ?_
  exact[(sml rfl):λt g1=>[(sml rfl):λt2 Z=>U (no λz=>c2 z.2.1) t g1 t2 Z]]
 refine Qq (by rw [uf ()];rfl) ?_
 exists 5
 refine[(sml rfl):λL1 g1=> ?_]
 exists 0,va,1,[us:SqT.of (qf g1 _ _ _ ha)]
 let J1_:Nat->L2.St->Hp->Prop:=λi σ H'=>i<=ds.length/\(∀z∈ds.take i,(Qo ds.length z).isSome=v_)/\∃(ws:oj V) (x2 x3:om V),σ= [u_ (.ref va),u_ (.ref L1),x2,x3]/\H' L1=u_ (.lst ws)/\L2.IsL H' (((ds.take i).filterMap (Qo ds.length)).map L2.rowD) ws/\Same H H'
 refine KM (K:=K) (a:=va) (xs:=us) J1_
  ⟨vf _,(λz hz=>by simp at hz),[],U_,U_,1,qg,1,qf g1 _⟩ (λi σ H' _ ⟨_,_,_,_,_,_,_,_,sm⟩=>SqT.of (sm _ _ ha)) ?_ ?_
 ·rintro i x σ H' hx ⟨ak,O,ws,x2,x3,rfl,e1,hw,sm⟩;have ac:i<ds.length:=by
   erw[Ai.mp hx,h,_];omega
  erw[hu.get (i:=i) (d:=ds[i]) (ur ac),x',af,al];rw [hx] at af;cases af;have am:ws.length=i:=by
   rw [hw.length,uc,rows_len O,U2];omega
  exists 5
  refine⟨0,0,va,us,1,.inr (SqT.of (sm _ _ ha)),x,ds[i],ds.length,by rw [ae];rfl,al.mono sm.tk,c2,λv H2 s2 hv=> ?_⟩
  have e2:=s2 _ _ e1;cases er:Qo ds.length ds[i] with
  |some r=>
   rw [er] at hv;have hv:Is H2 (L2.rowD r) v:=hv;have ad:=hv;erw[ad,ag,ao,rfl,_,_]
   exists 0,1,0;refine Qq (uh λz=>by cases z) ?_
   exists 0,.inl [1:_:SqL.of e2],0,L1,ws,0,1,e2,Xy ()
   have t3:Tk H2 (upd H2 L1 (.lst (ws++ [.ref ag]))):=Tk.updL e2
   exists 5
   refine⟨ac,λz hz=> ?_,ws++ [.ref ag],_,0,qg,?_,λb o e=> ?_⟩
   ·rw [vV,ur ac] at hz;rcases Af.mp hz with hz|hz
    ·exact O z hz
    ·have:z=ds[i]:=by simpa using hz
     rw [this,er]
     rfl
   ·rw [rows_take (ur ac) er,uu];exact((hw.mono s2.tk).mono t3).append (IsL.one (hv.mono t3))
   ·rw [qh (ql e g1)];exact s2 b o (sm b o e)
  |none=>
   rw [er] at hv;cases(show v= .non from hv)
   exists 0,1,0;refine QK rfl ?_
   exists 5
   refine⟨0,L1,ws,1,.inl [SqL.of e2:λt1 Z=> ?_]⟩;have s3:Same H2 (upd H2 t1 (.tup ws)):=qf Z _;have i3:Is (upd H2 t1 (.tup ws)) (.tup (((ds.take i).filterMap (Qo ds.length)).map L2.rowD)) (.ref t1):=Is.new (hw.mono s2.tk) Z
   exists 5
   refine⟨0,L1,ws,1,.inl (SqL.of (s3 _ _ e2)),_,0,1,(sml rfl),λt4 g4=> ?_⟩;exact k _ _ _ (.int _) (sm.trans (s2.trans (s3.trans (qf g4 _)))) (rd_bad (no λz=>by have:=z.2.2.1 _ (vi ac);rw [er] at this;cases this)) (Is.new (ds:= [.tup (((ds.take i).filterMap (Qo ds.length)).map L2.rowD),.int _]) ⟨_,0,i3,_,0,1,1⟩ g4)
 ·rintro σ H' ⟨ak,O,ws,x2,x3,rfl,e1,hw,sm⟩;rw [ae,V6] at hw O
  exists 5
  refine⟨0,L1,ws,1,.inl [SqL.of e1:λt1 Z=> ?_]⟩;have s2:Same H' (upd H' t1 (.tup ws)):=qf Z _;have i2:Is (upd H' t1 (.tup ws)) (.tup ((ds.filterMap (Qo ds.length)).map L2.rowD)) (.ref t1):=Is.new hw Z;generalize upd H' t1 (.tup ws)=H2 at s2 i2⊢
  exists 5
  refine⟨0,_,.tup ds,1,hv.mono (sm.trans s2).tk,λH3 s3=> ?_⟩
  exists 0;cases hT:isT (.tup ds) with
  |true=>
   refine QK rfl [(sml rfl):λt4 g4=> ?_];have ah:Q7 (.tup ds)=u_ (ds.filterMap (Qo ds.length)):=by
    rw [Xz,Aa];rw [uf c1,uf c2,hT,List.all_eq_true.mpr O]
    rfl
   exact k _ _ _ .non (sm.trans (s2.trans (s3.trans (qf g4 _)))) ⟨λrs e=>(by rw [ah] at e;cases e;exact[1:1]),λe=>(by rw [ah] at e;cases e)⟩ (Is.new (ds:= [.tup ((ds.filterMap (Qo ds.length)).map L2.rowD),.non]) ⟨_,0,i2.mono s3.tk,_,0,1,1⟩ g4)
  |false=>
   refine Qq rfl [(sml rfl):λt4 g4=> ?_];exact k _ _ _ (.int 1) (sm.trans (s2.trans (s3.trans (qf g4 _)))) (rd_bad (no λz=>by have:=z.2.2.2;rw [hT] at this;cases this)) (Is.new (ds:= [.tup ((ds.filterMap (Qo ds.length)).map L2.rowD),.int 1]) ⟨_,0,i2.mono s3.tk,_,0,1,1⟩ g4)
inductive sp_rows (br:Addr) (vs:List V) (H:Hp) (Q:VK) (E:XK):Prop
 |mk (v:V) (d:D) (_:vs= [v]) (_:Is H d v) (_:(∀rs,Q7 d=u_ rs->∀(u:V) (H':Hp),Same H H'->Is H' (.tup (rs.map L2.rowD)) u->Q u H')) (_:(Q7 d=U_->∀(e:Addr) (H':Hp),Same H H'->E (.ref e) (u_ br) H'))
theorem ok_rows (T:Tx K mg a)(C:Fx K w mg g a):FnOk P w K mg base (CX1 P w) 4 a.Wg a.Z7 ["tree"] (sp_rows g.br):=by
 have Ju:=#[ok_read,T,C];refine T.g_rule_rows.F.okX zY () (λ_ _ _ _ H _ Q E hr h=> ?_)
 erw[h,v,d,rfl,hv,k,kB];exists 3,%[#[qD,(1),zY.nd,#[qt,Ju,hr.mono (),T.g_read_lines,#v[pv 0]]],#[qL,#[qp,Ki,#[qJ,qI,pv 1,qi],qW,qB _],%[|#[ps_raise,22,C.x_BadRule,_,C.m_BadRule,qk,_,_]],qx]|#[qr,#[qJ,qI,pv 1,qi]]]
 exists 5
 refine⟨0,v,d,1,hv,λu H1 x y s1 hd U=> ?_⟩
 exists 0;dsimp![tC];refine xJ (i:=1) (d:=y) U rfl λz Z=> ?_;cases O:Q7 d with
 |none=>
  erw[hd.2 O,i,rfl];cases(show z= .int i from Z)
  exists 1,0;refine QK (by rw [uh (λz=>by cases z)];rfl) ?_
  exact[1:λe=>kB O e H1 s1]
 |some rs=>
  erw[hd.1 rs O,rfl,rfl];cases(show z= .non from Z)
  exists 1,0;refine Qq rfl ?_
  exists 0;dsimp![tC];refine xJ (i:=0) (d:= .tup (rs.map L2.rowD)) U rfl λq hq=> ?_;exact k rs O q H1 s1 hq
def kvB (f:Str->V):oj (Key×V):=BX.map λz=>(Vc z,f z)
theorem val_B {f:Str->V}:∀{zs:oj Str}{z:Str},z∈zs->valV (zs.map λz=>((Vc z:Key),f z)) (Vc z)=u_ (f z)
 |y::ys,z,h=>by
  rw [ui];by_cases e:y=z
  ·subst e;exact QM rfl
  ·have h':z∈ys:=by
    rcases Ac.mp h with rfl|h
    ·exact absurd rfl e
    ·exact h
   have:=val_B (f:=f) h';unfold valV at this⊢;rw [v7];have O:decide ((Vc y:Key)=Vc z)=false:=uh λq=>e (Uu q);simp![O];exact this
variable {u:V}
theorem put_B {f:Str->V}(h:z∈BX):putK (kvB f) (Vc z) u=kvB λy=>if y=z then u else f y:=by
 unfold putK;rw [Aa]
 ·unfold kvB;rw [uL];refine vO λy _=> ?_;by_cases e:y=z
  ·simp [e]
  ·simp [e]
 ·rw [tS];exact⟨(Vc z,f z),Ag.mpr [z:h:1],by simp⟩
def Ym (H:Hp)(d:o3)(B:Str->D):Prop:=∃f:Str->V,H d=u_ (.dK (kvB f))/\∀z∈BX,Is H (B z) (f z)
def setB (B:Str->D)(z:Str)(e:D):Str->D:=λy=>if y=z then e else B y
variable {H H':Hp}
theorem Ym.same {d:o3}{B:Str->D}(h:Ym H d B)(s:Same H H'):Ym H' d B:=let⟨f,e,i⟩:=h;[f:s _ _ e:λz O=>(i z O).mono s.tk]
theorem Ym.move {d:o3}{B:Str->D}(h:Ym H d B)(t:Tk H H')(e:H' d=H d):Ym H' d B:=let⟨f,e1,i⟩:=h;[f:e.trans e1:λz O=>(i z O).mono t]
theorem Ym.get {d:o3}{B:Str->D}(h:Ym H d B)(O:z∈BX):∃v,DGet H d (.str z) (u_ v)/\Is H (B z) v:=by
 erw[h,f,e,i];refine[f z:?_:i z O];have:=DGet.k (k:=(Vc z:Key)) e;rw [show valV (kvB f) (Vc z)=u_ (f z) from val_B O] at this
 exact this
variable {e:D}
theorem Ym.put {d:o3}{B:Str->D}(h:Ym H d B)(U:z∈BX)(Z:Is H e u):∃kvs,DPut H d (.str z) u (upd H d (.dK kvs))/\Ym (upd H d (.dK kvs)) d (setB B z e)/\Tk H (upd H d (.dK kvs)):=by
 erw[h,f,O,i];refine⟨kvB λy=>if y=z then u else f y,.inl ⟨_,Vc z,O,1,by show BX.length<Vb;rw [uF];decide,by rw [put_B U]⟩,[_:qg:λy hy=> ?_],Tk.updD O⟩
 have t:Tk H (upd H d (.dK (kvB λy=>if y=z then u else f y))):=Tk.updD O
 unfold setB;by_cases c:y=z
 ·rw [Aa c,Aa c];exact Z.mono t
 ·rw [A2 c,A2 c];exact(i y hy).mono t
def J9:oj D->Bool
 | []=>v_
 | .str _::r=>J9 r
 |_=>V9
def JW:oj D->oj Str
 | .str z::r=>z::JW r
 |_=> []
def b0 (ps:oj Pt):Str:=(ps.getD 0 (.s "")).t
def b1 (ps:oj Pt):Str:=(ps.getD 1 (.s "")).t
def b2 (ps:oj Pt):Str:=(ps.getD 2 (.s "")).t
def firstD:D->D
 | .str z=>if z.length=0 then .non else .str ⟨#[z.cps.getD 0 0]⟩
 | .tup (x::_)=>x
 |_=> .non
def restD:D->D
 | .str z=>if z.length=0 then .non else .str (Hl z (u_ 1) U_)
 | .tup (_::r)=> .tup r
 |_=> .non
def lenD:D->Nat
 | .str z=>z.length
 | .tup xs=>xs.length
 |_=>0
def putD:D->D->D
 | .tup xs,e=> .tup (xs++ [e])
 |_,_=> .non
def joinD:D->D->D
 | .str x,.str y=> .str (x++y)
 |_,_=> .non
def cutD:D->D->D
 | .str z,.str y=>if y.length=0 then .non else .tup ((spG z y).map .str)
 |_,_=> .non
def glueD:D->D->D
 | .tup xs,.str y=>if J9 xs=v_ then .str (Vi y (JW xs)) else .non
 |_,_=> .non
def made (w:Str)(B:Str->D)(own:Str)(ps:oj Pt):D:=
 if w="text" then .str (b1 ps) else if w="self" then .str own else if w="copy" then B (b1 ps) else if w="row" then .tup [] else
 if w="put" then putD (B (b0 ps)) (B (b1 ps)) else if w="join" then joinD (B (b0 ps)) (B (b1 ps)) else if w="first" then firstD (B (b1 ps)) else if w="rest" then restD (B (b1 ps)) else
 if w="size" then .str (Vk ((lenD (B (b1 ps)):Nat):Int)) else if w="cut" then cutD (B (b1 ps)) (B (b2 ps)) else glueD (B (b1 ps)) (B (b2 ps))
variable {ps:oj Pt}
theorem QT {m:Nat}{w:Str}(h:jS n m (w,ps))(O:(w,ks)∈FRM):xR n m ks ps:=by
 erw[h,U,h1,h2];have:=form_nd _ h1 _ O rfl;cases this;exact h2
theorem sh_b {m:Nat}(h:xR n m [.box] ps):∃x,ps= [.s x]/\x∈BX:=by
 match ps,h with
 | [.s x],h=>exact[x:1:h.1]
 | [.n _],h=>exact h.1.elim
theorem wD {m:Nat}(h:xR n m [.box,.box] ps):∃x y,ps= [.s x,.s y]/\x∈BX/\y∈BX:=by
 match ps,h with
 | [.s x,.s y],h=>exact⟨x,y,1,h.1,h.2.1⟩
 | [.n _,_],h=>exact h.1.elim
 | [.s _,.n _],h=>exact h.2.1.elim
theorem sh_bbb {m:Nat}(h:xR n m [.box,.box,.box] ps):∃x y z,ps= [.s x,.s y,.s z]/\x∈BX/\y∈BX/\z∈BX:=by
 match ps,h with
 | [.s x,.s y,.s z],h=>exact⟨x,y,z,1,h.1,h.2.1,h.2.2.1⟩
 | [.n _,_,_],h=>exact h.1.elim
 | [.s _,.n _,_],h=>exact h.2.1.elim
 | [.s _,.s _,.n _],h=>exact h.2.2.1.elim
theorem sh_bw {m:Nat}(h:xR n m [.box,.words] ps):∃x y,ps= [.s x,.s y]/\x∈BX/\y.length<=m/\y.cps.toList.all QD=true:=by
 match ps,h with
 | [.s x,.s y],h=>exact⟨x,y,1,h.1,h.2.1⟩
 | [.n _,_],h=>exact h.1.elim
 | [.s _,.n _],h=>exact h.2.1.elim
theorem sh_bl {m:Nat}(h:xR n m [.box,.line] ps):∃x,∃i:Int,ps= [.s x,.n i]/\x∈BX/\1<=i/\i<=n:=by
 match ps,h with
 | [.s x,.n i],h=>exact⟨x,i,1,h.1,h.2.1⟩
 | [.n _,_],h=>exact h.1.elim
 | [.s _,.s _],h=>exact h.2.1.elim
theorem sh_bbl {m:Nat}(h:xR n m [.box,.box,.line] ps):∃x y,∃i:Int,ps= [.s x,.s y,.n i]/\x∈BX/\y∈BX/\1<=i/\i<=n:=by
 match ps,h with
 | [.s x,.s y,.n i],h=>exact⟨x,y,i,1,h.1,h.2.1,h.2.2.1⟩
 | [.n _,_,_],h=>exact h.1.elim
 | [.s _,.n _,_],h=>exact h.2.1.elim
 | [.s _,.s _,.s _],h=>exact h.2.2.1.elim
def PtsAt (H:Hp)(t:o3)(ps:oj Pt):Prop:=Is H (.tup (ps.map Pt.d)) (.ref t)
def Tr (B:Str->D):Prop:=∀z∈BX,isT (B z)=v_
inductive Xq (w:Str) (vs:List V) (H:Hp) (Q:VK) (E_:XK):Prop
 |mk (d t:Addr) (own:Str) (B:Str->D) (ps:List Pt) (n:Nat) (_:vs= [.ref d,.str own,.ref t]) (_:Ym H d B) (_:Tr B) (_:own.length<=100) (_:jS n 300 (w,ps)) (_:PtsAt H t ps) (_:∀(v:V) (H':Hp),Same H H'->Is H' (made w B own ps) v->Q v H')
variable {Q:VK}
theorem box_at {K:o0}{t:o3}{i:Nat}(h:PtsAt H t ps)(e:ps[i]? =u_ (.s z))(q:Q (.str z) H):rIxT K (.ref t) (.int (i:Int)) H Q:=
 xJ (d:= .str z) h (Qc (by rw [uI,e];rfl)) λx O=>by erw[O,rfl,_];exact q
theorem J0 {d:D}(h:isT d=v_):dp d<=12:=by
 unfold isT at h;rw [uw] at h;exact uA h.2
theorem isT_sz {d:D}(h:isT d=v_):sz d<=600:=by
 unfold isT at h;rw [uw,uw] at h;exact uA h.1.2
theorem Y9 {d:D}(h:isT d=v_):lenD d<=600:=by
 have h1:=isT_sz h;cases d with
 |str z=>simp![sz] at h1;show z.length<=600;omega
 |tup xs=>
  unfold isT at h;rw [uw,uw] at h;have h2:=h.1.1;simp![good,uw] at h2;have:=uA h2.1;show xs.length<=600;omega
 |_=>exact vf _
theorem app_len (z y:Str):(z++y:Str).length=z.length+y.length:=by
 show(z.cps++y.cps).size=z.cps.size+y.cps.size;exact HV
theorem bget {K:o0}{t d:o3}{B:Str->D}{i:Nat}(O:Ym H d B)(h:PtsAt H t ps)(e:ps[i]? =u_ (.s z))(U:z∈BX)(q:∀v,Is H (B z) v->Q v H):rIxT K (.ref t) (.int (i:Int)) H (λy H2=>ItDGet Q (.ref d) y H2):=by
 erw[O.get U,v,Z,iv];exact box_at h e ⟨d,v,1,Z,q v iv⟩
theorem ok_text (T:Tx K mg a):#[K,1,a.xr,a.we,["boxes","own","parts"],(Xq "text")]:=by
 exists 9,T.g_text_made,sc_text_made,Z
 erw[h,d,t,own,B,ps,n,rfl,hB,hT,ho,O,U,k];exists 3,%[|#[qr,#[qJ,qI,pv 2,qi]]]
 erw[sh_bw (QT O ()),x,y,rfl,hx,hy,hs]
 exact⟨0,box_at (i:=1) U rfl (k _ H (Same.refl _) ⟨1,yD (by show y.length<=1000;omega)⟩)⟩
theorem ok_self (T:Tx K mg a):#[K,1,a.xL,a.w6,["boxes","own","parts"],(Xq "self")]:=by
 exists 9,T.g_self_made,sc_self_made,U
 erw[h,d,t,own,B,ps,n,rfl,Z,hT,ho,O,hp,k];exists 3,%[|#[qr,pv 1]]
 exact⟨0,k _ H (Same.refl _) ⟨1,yD (by show own.length<=1000;omega)⟩⟩
theorem ok_row (T:Tx K mg a):#[K,1,a.zi,a.Wu,["boxes","own","parts"],(Xq "row")]:=by
 exists 9,T.g_row_made,sc_row_made,Z
 erw[h,d,t,own,B,ps,n,rfl,hB,hT,ho,U,hp,k];exists 3,%[|#[qr,#[qE,qc]]]
 exact[(sml rfl):λl O=>k _ _ (qf O _) (Is.new (ds:= []) rfl O)]
theorem ok_copy (T:Tx K mg a):#[K,1,a.xN,a.wM,["boxes","own","parts"],(Xq "copy")]:=by
 exists 9,T.g_copy_made,sc_copy_made,U
 erw[h,d,t,own,B,ps,n,rfl,Z,hT,ho,O,hp,k];exists 3,%[|#[qr,#[Qz,6,QW U,pv 0,#[qJ,qI,pv 2,qi],(λ_ _=>rfl)]]]
 erw[wD (QT O ()),x,y,rfl,hx,hy]
 exists 0,0;exact bget (i:=1) Z hp rfl hy λv iv=>k _ H (Same.refl _) iv
theorem ok_put (T:Tx K mg a):#[K,1,a.zf,a.WR,["boxes","own","parts"],(Xq "put")]:=by
 exists 9,T.g_put_made,wS
 erw[h,d,t,own,B,ps,n,rfl,hB,hT,ho,aa,O,k];exists 3,%[#[qD,(3),wS.nd,#[Qz,pv 0,#[qJ,qI,pv 2,qi]]],#[qL,#[QE,#[Qr,#[qz,#[Qa,2,rfl],T.qU,v9,#v[pv 3,#[Q6,.ty "tuple",T.Qk,vc]]]]],%[|#[qr,qW]],qx]|#[qr,#[qV,Z0,pv 3,#[qE,#v[#[Qz,pv 0,#[qJ,qI,pv 2,qi]]]]]]]
 erw[wD (QT aa ()),x,y,rfl,hx,hy]
 exists 0,0;refine bget (i:=0) hB O rfl hx λv iv=> ?_
 exists 0,v,"tuple",tyD (B x),X1 (B x),1,iv.ty,xQ _,0;have U:=Y9 (hT x hx);have k':∀(v:V) (H':Hp),Same H H'->Is H' (putD (B x) (B y)) v->Q v H':=k;generalize B x=dx at iv k' U⊢;cases dx with
 |tup xs=>
  refine iteF ?_;erw[iv,r,rs,rfl,er,ir]
  exists 0,0,0;refine bget (i:=1) hB O rfl hy λu iu=> ?_
  exists 5
  refine⟨(sml rfl),λl Z=>⟨r,l,rs,[u],1,1,SqT.of (qf Z _ _ _ er),SqT.of qg,?_,λe=> ?_,λ_ e=>(by cases e),λ_ _ p O=> ?_⟩⟩
  ·rw [ir.length];have:xs.length<=600:=U;exact yD (by show xs.length+1<=1000;omega)
  ·subst e;have e2:xs= []:=vg ir.length.symm;subst e2;exact k' _ _ (qf Z _) (Is.new (ds:= [B y]) (IsL.one iu) Z)
  ·have t1:Tk H (upd H l (.tup [u])):=(qf Z _).tk;exact k' _ _ ((qf Z _).trans (qf O _)) (Is.new (ds:=xs++ [B y]) ((ir.mono t1).append (IsL.one (iu.mono t1))) O)
 |_=>exact iteT (k' _ H (Same.refl _) rfl)
theorem ok_join (T:Tx K mg a):#[K,1,a.xp,a.wx,["boxes","own","parts"],(Xq "join")]:=by
 exists 9,T.g_join_made,Je
 erw[h,d,t,own,B,ps,n,rfl,hB,hT,ho,aa,hp,k];exists 3,%[#[qD,(3),Je.nd,#[Qz,pv 0,#[qJ,qI,pv 2,qi]]],#[qD,(4),Je.nd,#[Qz,pv 0,#[qJ,qI,pv 2,qi]]],@qL _ _ _ _ _ _ _ _ #[zp,#[QE,#[Qr,#[qz,#[Qa,2,rfl],T.qU,v9,#v[pv 3,#[Q6,.ty "str",T.JU,Uh]]]]],#[xa,#[QE,#[Qr,#[qz,#[Qa,2,rfl],T.qU,v9,#v[pv 4,#[Q6,.ty "str",T.JU,Uh]]]]]]].pt %[|#[qr,qW]] qx|#[qr,#[qV,Qd,pv 3,pv 4]]]
 erw[wD (QT aa ()),x,y,rfl,hx,hy]
 exists 0,0;refine bget (i:=0) hB hp rfl hx λv iv=> ?_
 exists 0,0;refine bget (i:=1) hB hp rfl hy λu iu=> ?_;have lx:=Y9 (hT x hx);have ly:=Y9 (hT y hy);have O:∀(v:V) (H':Hp),Same H H'->Is H' (joinD (B x) (B y)) v->Q v H':=k;generalize B x=dx at iv O lx⊢;generalize B y=U at iu O ly⊢
 exists 0,v,"str",tyD dx,isStr dx,1,iv.ty,jq _,0;cases dx with
 |str z=>
  refine iteF ⟨0,u,"str",tyD U,isStr U,1,iu.ty,jq _,0,?_⟩;cases U with
  |str Z=>
   refine iteF ?_;erw[iv,rfl,_];erw[iu,rfl,_];have h1:z.length<=600:=lx;have h2:Z.length<=600:=ly;exact⟨0,0,_,0,1,fits (),O _ H (Same.refl _) ⟨1,by rw [show(z++Z).length=z.length+Z.length from app_len z Z];exact fits ()⟩⟩
  |_=>exact iteT (O _ H (Same.refl _) rfl)
 |_=>exact iteT (O _ H (Same.refl _) (by cases U<;>rfl))
theorem ok_first (T:Tx K mg a):#[K,1,a.j3,a.Zf,["boxes","own","parts"],(Xq "first")]:=by
 exists 9,T.g_first_made,Xh
 erw[h,d,t,own,B,ps,n,rfl,hB,hT,ho,Z,hp,k];exists 3,%[#[qD,(3),Xh.nd,#[Qz,pv 0,#[qJ,qI,pv 2,qi]]]|#[qr,#[Q2,#[qp,op_gt,#[qz,Jw,T.yK,uJ,#v[pv 3]],qi,qB _],#[qJ,J3,pv 3,qi],qW]]]
 erw[wD (QT Z ()),x,y,rfl,hx,hy]
 exists 0,0;refine bget (i:=1) hB hp rfl hy λv U=> ?_;have ly:=Y9 (hT y hy);have hg:=hT y hy;have O:∀(v:V) (H':Hp),Same H H'->Is H' (firstD (B y)) v->Q v H':=k;generalize B y=dy at U O ly hg⊢;cases dy with
 |str z=>
  erw[U,rfl,hz]
  exists 5
  refine[0:.inl ⟨z,1,hz,_,0,1,0,?_⟩];refine ite2 (λc=> ?_) (λc=> ?_)
  ·have h0:1<=z.length:=by have:=uA c;omega
   have k2:Is H (firstD (.str z)) (.str ⟨#[z.cps.getD 0 0]⟩):=by
    show Is H (if z.length=0 then D.non else _) _
    rw [A2 ()]
    exact⟨1,yD (by show 1<=1000;decide)⟩
   exact[0:.inr (.inr ⟨z,(0),0,1,hz,first_at h0,O _ H (Same.refl _) k2⟩)]
  ·have h0:z.length=0:=by
    rcases FU z.length with e|e
    ·exact e
    ·exact absurd (uf ()) c
   exact O _ H (Same.refl _) (by show Is H (if z.length=0 then D.non else _) _;rw [Aa h0];rfl)
 |tup xs=>
  have aa:=U;erw[aa,r,rs,rfl,er,ir]
  exists 5
  refine[0:.inr ⟨r,rs,1,.inr (SqT.of er),λ_=>⟨_,0,1,0,?_⟩⟩];have hl:=ir.length;cases xs with
  |nil=>exact Qq (uh (by rw [hl];decide)) (O _ H (Same.refl _) rfl)
  |cons e es=>
   refine QK (uf (by rw [hl,um];omega)) ?_
   exact[0:.inr (.inl (xJ (i:=0) (d:=e) U (Qc (j:=0) rfl) λq hq=>O _ H (Same.refl _) hq))]
 |_=>simp [isT,good] at hg
theorem kc:∀xs:oj D,J9 xs=xs.all isStr
 | []=>rfl
 | .str _::r=>by show J9 r=_;rw [kc r];rfl
 | .non::_| .bl _::_| .int _::_| .lst::_| .dct::_| .tup _::_=>rfl
theorem strs_map:∀{xs:oj D},J9 xs=v_->xs=(JW xs).map D.str
 | [],_=>rfl
 | .str z::r,h=>by
  show D.str z::r=D.str z::(JW r).map D.str;rw [<-strs_map (show J9 r=v_ from h)]
theorem IsL.strs {H:Hp}:∀{l:oj Str}{vs:oj V},L2.IsL H (l.map D.str) vs->vs=l.map V.str
 | [],_,h=>h
 |_::_,_,h=>by
  erw[h,v,r,rfl,h1,h2];rw [IsL.strs h2,h1.1];rfl
theorem IsL.ofStrs {H:Hp}:∀{l:oj Str},(∀z∈l,z.length<=Vb)->L2.IsL H (l.map D.str) (l.map V.str)
 | [],_=>rfl
 |z::l,h=>⟨_,0,[1:h z ug],IsL.ofStrs λy O=>h y (ud _ O)⟩
theorem sum_lens:∀(l:oj Str),(l.map (·.length)).sum+l.length=szL (l.map D.str)
 | []=>rfl
 |z::l=>by
  have:=sum_lens l;simp![ui,UF,um,szL,sz];omega
theorem join_le (sep:Str):∀(l:oj Str),(Vi sep l).length<=(l.map (·.length)).sum+l.length*sep.length
 | []=>vf _
 | [x]=>by simp [Vi]
 |x::y::r=>by
  have O:=join_le sep (y::r);have e:(Vi sep (x::y::r)).length=x.length+sep.length+(Vi sep (y::r)).length:=by
   show((x.cps++sep.cps)++(Vi sep (y::r)).cps).size=_;rw [HV,HV]
   rfl
  rw [e,ui,UF,um,RB];omega
theorem ok_rest (T:Tx K mg a):#[K,1,a.xO,a.Wc,["boxes","own","parts"],(Xq "rest")]:=by
 exists 9,T.g_rest_made,Zl
 erw[h,d,t,own,B,ps,n,rfl,hB,hT,ho,Z,U,k];exists 3,%[#[qD,(3),Zl.nd,#[Qz,pv 0,#[qJ,qI,pv 2,qi]]]|#[qr,#[Q2,#[qp,op_gt,#[qz,Jw,T.yK,uJ,#v[pv 3]],qi,qB _],#[YR,sl_any,pv 3,#[YJ,qi],zw],qW]]]
 erw[wD (QT Z ()),x,y,rfl,hx,hy]
 exists 0,0;refine bget (i:=1) hB U rfl hy λv iv=> ?_;have ly:=Y9 (hT y hy);have hg:=hT y hy;have O:∀(v:V) (H':Hp),Same H H'->Is H' (restD (B y)) v->Q v H':=k;generalize B y=dy at iv O ly hg⊢;cases dy with
 |str z=>
  erw[iv,rfl,hz]
  exists 5
  refine[0:.inl ⟨z,1,hz,_,0,1,0,?_⟩];refine ite2 (λc=> ?_) (λc=> ?_)
  ·have h0:1<=z.length:=by have:=uA c;omega
   have k2:Is H (restD (.str z)) (.str (Hl z (u_ 1) U_)):=by
    show Is H (if z.length=0 then D.non else _) _
    rw [A2 ()]
    exact[1:uM (FH z _ _) hz]
   exact[0:0:.inl ⟨z,1,hz,O _ H (Same.refl _) k2⟩]
  ·have h0:z.length=0:=by
    rcases FU z.length with e|e
    ·exact e
    ·exact absurd (uf ()) c
   exact O _ H (Same.refl _) (by show Is H (if z.length=0 then D.non else _) _;rw [Aa h0];rfl)
 |tup xs=>
  have aa:=iv;erw[aa,r,rs,rfl,er,ir]
  exists 5
  refine[0:.inr ⟨r,rs,1,.inr (SqT.of er),λ_=>⟨_,0,1,0,?_⟩⟩];have hl:=ir.length;cases xs with
  |nil=>exact Qq (uh (by rw [hl];decide)) (O _ H (Same.refl _) rfl)
  |cons e es=>
   refine QK (uf (by rw [hl,um];omega)) ?_
   erw[ir,v0,r0,rfl,i0,i1]
   exists 5
   refine[0:0:.inr ⟨r,v0::r0,1,SqT.of er,λh=> ?_,λ_ p U=> ?_⟩]
   ·exfalso;have:=h.1;simp [HT.sIx] at this
   ·have e1:cutV (v0::r0) (u_ 1) U_=r0:=by
     rw [show(u_ (1:Int))=u_ (((1:Nat)):Int) from rfl,Wa (by simp)]
     rfl
    rw [e1];exact O _ _ (qf U _) (Is.new i1 U)
 |_=>simp [isT,good] at hg
theorem ok_size (T:Tx K mg a):#[K,1,a.xj,a.Z4,["boxes","own","parts"],(Xq "size")]:=by
 exists 9,T.g_size_made,sc_size_made
 erw[h,d,t,own,B,ps,n,rfl,hB,hT,ho,O,hp,k];exists 3,%[|#[qr,#[qK,Q0,T.JU,Uh,#v[#[qz,Jw,T.yK,uJ,#v[#[Qz,pv 0,#[qJ,qI,pv 2,qi]]]]]]]]
 erw[wD (QT O ()),x,y,rfl,hx,U]
 exists 0,0;refine bget (i:=1) hB hp rfl U λv Z=> ?_;have ly:=Y9 (hT y U);have hg:=hT y U;have k':∀(v:V) (H':Hp),Same H H'->Is H' (.str (Vk ((lenD (B y):Nat):Int))) v->Q v H':=k;generalize B y=dy at Z k' ly hg⊢;have sm:∀n:Nat,n<=600->((n:Int)).natAbs.log2<1920/\((Vk (n:Int):Str)).length<=sizeLine:=by
  intro n hn;have h2:=UI ((n:Int)).natAbs;exact[():int_text_fits ()]
 cases dy with
 |str z=>
  erw[Z,rfl,hz];have h2:=sm z.length ly;exact .inl ⟨z,1,hz,0,h2.1,k' _ H (Same.refl _) [1:h2.2]⟩
 |tup xs=>
  have aa:=Z;erw[aa,r,rs,rfl,er,ir];have h2:=sm xs.length ly;refine .inr ⟨r,rs,1,.inr (SqT.of er),λ_=>[0:?_:?_]⟩
  ·rw [ir.length];exact h2.1
  ·rw [ir.length];exact k' _ H (Same.refl _) [1:h2.2]
 |_=>simp [isT,good] at hg
theorem ok_cut (T:Tx K mg a):#[K,1,a.zA,a.WG,["boxes","own","parts"],(Xq "cut")]:=by
 exists 9,T.g_cut_made,xo
 erw[h,d,t,own,B,ps,n,rfl,hB,hT,ho,aa,Z,k];exists 3,%[#[qD,(3),xo.nd,#[Qz,pv 0,#[qJ,qI,pv 2,qi]]],#[qD,(4),xo.nd,#[Qz,pv 0,#[qJ,qI,pv 2,qi]]],@qL _ _ _ _ _ _ _ _ #[zp,#[QE,#[Qr,#[qz,#[Qa,2,rfl],T.qU,v9,#v[pv 3,#[Q6,.ty "str",T.JU,Uh]]]]],#[zp,#[QE,#[Qr,#[qz,#[Qa,2,rfl],T.qU,v9,#v[pv 4,#[Q6,.ty "str",T.JU,Uh]]]]],#[xa,#[qp,QF,pv 4,qk,qB _]]]].pt %[|#[qr,qW]] qx|#[qr,#[qK,qG,T.Qk,vc,#v[#[YL,uU,Uk,Ul,mt_splitG,pv 3,#v[pv 4]]]]]]
 erw[sh_bbb (QT aa ()),x0,x,y,rfl,ac,hx,hy]
 exists 0,0;refine bget (i:=1) hB Z rfl hx λv iv=> ?_
 exists 0,0;refine bget (i:=2) hB Z rfl hy λu iu=> ?_;have lx:=Y9 (hT x hx);have ly:=Y9 (hT y hy);have U:∀(v:V) (H':Hp),Same H H'->Is H' (cutD (B x) (B y)) v->Q v H':=k;generalize B x=dx at iv U lx⊢;generalize B y=dy at iu U ly⊢
 exists 0,v,"str",tyD dx,isStr dx,1,iv.ty,jq _,0;cases dx with
 |str z=>
  refine iteF ⟨0,u,"str",tyD dy,isStr dy,1,iu.ty,jq _,0,?_⟩;cases dy with
  |str O=>
   refine iteF ?_;erw[iv,rfl,_];erw[iu,rfl,_];have h1:z.length<=600:=lx;have h2:O.length<=600:=ly
   exists 0,1,0;refine ite2 (λc=> ?_) (λc=> ?_)
   ·have e:O="":=by have:=uA c;injection this
    subst e;exact U _ H (Same.refl _) rfl
   ·have h3:O.length≠0:=λh=>c (uf (by
     have:O="":=by
      have h4:O.cps= #[]:=Array.eq_empty_of_size_eq_zero h;cases O;simp only at h4;subst h4
      decide+kernel
     rw [this]))
    exists 5
    refine⟨0,1,0,z,O,1,1,(),(),λp Z=>[p:0:.inl [SqL.of qg:λl hl=> ?_]]⟩
    have s1:Same H (upd H p (.lst ((spG z O).map V.str))):=qf Z _;refine U _ _ (s1.trans (qf hl _)) ?_;show Is _ (if O.length=0 then D.non else .tup ((spG z O).map D.str)) _
    rw [A2 h3];exact Is.new (IsL.ofStrs λq hq=>yD (by have:=spG_mem hq;omega)) hl
  |_=>exact iteT (U _ H (Same.refl _) rfl)
 |_=>exact iteT (U _ H (Same.refl _) (by cases dy<;>rfl))
theorem ok_glue (T:Tx K mg a):#[K,1,a.xt,a.wn,["boxes","own","parts"],(Xq "glue")]:=by
 exists 9,T.g_glue_made,Jk
 erw[h,d,t,own,B,ps,n,rfl,hB,hT,ho,ae,hp,k];exists 3,%[#[qD,(3),Jk.nd,#[Qz,pv 0,#[qJ,qI,pv 2,qi]]],#[qD,(4),Jk.nd,#[Qz,pv 0,#[qJ,qI,pv 2,qi]]],@qL _ _ _ _ _ _ _ _ #[zp,#[QE,#[Qr,#[qz,#[Qa,2,rfl],T.qU,v9,#v[pv 3,#[Q6,.ty "tuple",T.Qk,vc]]]]],#[xa,#[QE,#[Qr,#[qz,#[Qa,2,rfl],T.qU,v9,#v[pv 4,#[Q6,.ty "str",T.JU,Uh]]]]]]].pt %[|#[qr,qW]] qx,#[qL,#[QE,#[Qr,#[qz,#[wY,1,rfl],T.z_all,HW,#v[#[Zm,["part"],[],lcs0,#[KC,4,pv 3],(λ_ _ _ _ _ _=>#[qZ,(0),(show Vz (["part"]:oj Str) by decide+kernel)]),(λ_ _ _ _ _ _=>#[qz,#[Qa,2,rfl],T.qU,v9,#v[pv 0,#[Q6,.ty "str",T.JU,Uh]]])]]]]],%[|#[qr,qW]],qx]|#[qr,#[YL,uU,U8,U9,mt_joinT,pv 4,#v[pv 3]]]]
 erw[sh_bbb (QT ae ()),x0,x,y,rfl,ah,hx,hy]
 exists 0,0;refine bget (i:=1) hB hp rfl hx λv iv=> ?_
 exists 0,0;refine bget (i:=2) hB hp rfl hy λu iu=> ?_;have lx:=Y9 (hT x hx);have hg:=hT x hx;have ly:=Y9 (hT y hy);have U:∀(v:V) (H':Hp),Same H H'->Is H' (glueD (B x) (B y)) v->Q v H':=k;generalize B x=dx at iv U lx hg⊢;generalize B y=dy at iu U ly⊢
 exists 0,v,"tuple",tyD dx,X1 dx,1,iv.ty,xQ _,0;cases dx with
 |tup xs=>
  refine iteF ⟨0,u,"str",tyD dy,isStr dy,1,iu.ty,jq _,0,?_⟩;cases dy with
  |str Z=>
   refine iteF ?_;erw[iv,r,rs,rfl,er,ir];erw[iu,rfl,_];have h1:xs.length<=600:=lx;have h2:Z.length<=600:=ly
   exists 5
   refine⟨0,r,rs,1,SqT.of er,λak A0 af=> ?_⟩;refine lc_tupS (tl:= []) (λd=> .bl (isStr d)) er ir (fits ()) af (λd0 x0 H3 R al s3 i3 q=>⟨0,x0,"str",tyD d0,isStr d0,1,i3.ty,jq _,q _ H3 (Same.refl _) rfl⟩) λH1 ys s1 l1 i1=> ?_
   have ey:ys=(xs.map isStr).map V.bl:=IsL.bls (by rwa [uL])
   subst ey
   exists A0,xs.map isStr,1,SqL.of l1,0;have aa:(xs.map isStr).all id=J9 xs:=by rw [kc,UM];rfl
   rw [aa];cases O:J9 xs with
   |false=>exact iteT (U _ H1 s1 (by show Is H1 (if J9 xs=v_ then _ else D.non) _;rw [O];rfl))
   |true=>
    have ac:=strs_map O;have ag:rs=(JW xs).map V.str:=IsL.strs (by rwa [<-ac])
    have hsz:=isT_sz hg;have ad:=sum_lens (JW xs);rw [<-ac] at ad;simp![sz] at hsz;have am:(JW xs).length*Z.length<=600*600:=Nat.mul_le_mul () h2
    have hj:=join_le Z (JW xs);refine iteF ⟨0,1,0,Z,r,JW xs,1,1,SqT.of (by rw [s1 _ _ er,ag]),(),?_⟩
    refine U _ H1 s1 ?_;show Is H1 (if J9 xs=v_ then .str (Vi Z (JW xs)) else D.non) _
    rw [O];exact[1:fits ()]
  |_=>exact iteT (U _ H (Same.refl _) rfl)
 |_=>exact iteT (U _ H (Same.refl _) (by cases dy<;>rfl))
def jump (w:Str)(B:Str->D)(ps:oj Pt):Bool:=if w="like" then eqD (B (b0 ps)) (B (b1 ps)) else if w="rowed" then X1 (B (b0 ps)) else if w="none" then decide (lenD (B (b0 ps))=0) else v_
def JMP:oj Str:= ["go","like","rowed","none"]
def ASK:oj Str:= ["ask","has","names"]
def flt (w:Str):D:= .tup [.str "fault",.str w]
def askF (w:Str)(held:D):D:=if w="names" then(if isStr held=v_ then .tup [.str "asks",.tup [.str "names",held]] else flt "kind") else if isNm held=v_ then .tup [.str "asks",.tup [.str (if w="ask" then "thing" else "has"),held]] else flt "name"
inductive sp_jump (vs:List V) (H:Hp) (Q:VK) (E_:XK):Prop
 |mk (d t:Addr) (w:Str) (B:Str->D) (ps:List Pt) (n:Nat) (_:vs= [.ref d,.str w,.ref t]) (_:Ym H d B) (_:Tr B) (_:w∈JMP) (_:jS n 300 (w,ps)) (_:PtsAt H t ps) (_:Q (.bl (jump w B ps)) H)
inductive sp_asked (vs:List V) (H:Hp) (Q:VK) (E_:XK):Prop
 |mk (w:Str) (v:V) (d:D) (_:vs= [.str w,v]) (_:w∈ASK) (_:Is H d v) (_:∀(u:V) (H':Hp),Same H H'->Is H' (askF w d) u->Q u H')
mutual
theorem good_pu:∀{d:D},good d=v_->puD d=v_
 | .str _,_=>rfl
 | .tup xs,h=>by
  simp![good,uw] at h;show puL xs=v_;exact goodL_pu h.2
 | .non,h| .bl _,h| .int _,h| .lst,h| .dct,h=>by simp [good] at h
theorem goodL_pu:∀{xs:oj D},goodL xs=v_->puL xs=v_
 | [],_=>rfl
 |x::r,h=>by
  simp![goodL,uw] at h;simp![puL,good_pu h.1,goodL_pu h.2,V7]
end
theorem good_tr {d:D}(h:good d=v_):trD d=true:=by
 cases d with
 |str z=>rfl
 |tup xs=>exact good_pu (d:= .tup xs) h
 |_=>simp [good] at h
theorem yt {d:D}(h:isT d=v_):good d=true:=by
 unfold isT at h;rw [uw,uw] at h;exact h.1.1
theorem isT_tr {d:D}(h:isT d=v_):trD d=true:=good_tr (yt h)
theorem ok_jump (T:Tx K mg a):#[K,1,a.Jc,a.JA,["boxes","word","parts"],sp_jump]:=by
 exists 9,T.g_is_jump_taken,Zv
 erw[h,d,t,w,B,ps,n,rfl,hB,hT,hw,U,hp,k];exists 3,%[#[qL,#[qp,QF,pv 1,qk,qB _],%[|#[qr,#[yJ,#[op_eqD,1,hr.units],#[Qz,pv 0,#[qJ,qI,pv 2,qi]],#[Qz,pv 0,#[qJ,qI,pv 2,qi]],qB _]]],qx],#[qL,#[qp,QF,pv 1,qk,qB _],%[|#[qr,#[qz,#[Qa,2,rfl],T.qU,v9,#v[#[Qz,pv 0,#[qJ,qI,pv 2,qi]],#[Q6,.ty "tuple",T.Qk,vc]]]]],qx],#[qL,#[qp,QF,pv 1,qk,qB _],%[|#[qr,#[yJ,QF,#[qz,Jw,T.yK,uJ,#v[#[Qz,pv 0,#[qJ,qI,pv 2,qi]]]],qi,qB _]]],qx]|#[qr,Jh]]
 exists 0,1,0;simp![JMP,uC,uD,uO] at hw;rcases hw with rfl|rfl|rfl|rfl
 ·refine Qq () ?_
  exists 5
  refine⟨0,1,0,Qq () ?_⟩
  exists 5
  refine⟨0,1,0,Qq () ?_⟩
  exact k
 ·refine QK () ?_
  erw[sh_bbl (QT U ()),x,y,i,rfl,O,hy,_]
  exists 0,0;dsimp![tC];refine bget (i:=0) hB hp rfl O λv Z=> ?_
  exists 0,0;dsimp![tC];refine bget (i:=1) hB hp rfl hy λu iu=> ?_
  exists 5
  refine⟨B x,B y,Z,iu,isT_tr (hT x O),isT_tr (hT y hy),?_,k⟩
  ·have:=J0 (hT x O);omega
 ·refine Qq () ?_
  exists 5
  refine⟨0,1,0,QK () ?_⟩
  erw[sh_bl (QT U ()),x,i,rfl,O,_]
  exists 0,0;refine bget (i:=0) hB hp rfl O λv Z=> ?_;exact⟨v,"tuple",tyD (B x),X1 (B x),1,Z.ty,xQ _,k⟩
 ·refine Qq () ?_
  exists 5
  refine⟨0,1,0,Qq () ?_⟩
  exists 5
  refine⟨0,1,0,QK () ?_⟩
  erw[sh_bl (QT U ()),x,i,rfl,O,_]
  exists 0,0;refine bget (i:=0) hB hp rfl O λv Z=> ?_;have k':Q (.bl (decide (lenD (B x)=0))) H:=k;have hg:=hT x O;generalize B x=dx at Z k' hg⊢;have hn:∀n:Nat,decide (V.int (n:Int)=V.int 0)=decide (n=0):=λn=>by
   rw [uZ];constructor
   ·intro h;injection h with h;omega
   ·rintro rfl;rfl
  cases dx with
  |str z=>
   erw[Z,rfl,hz];refine .inl ⟨z,1,hz,1,?_⟩;rw [hn];exact k'
  |tup xs=>
   erw[Z,r,rs,rfl,er,ir];refine .inr ⟨r,rs,1,.inr (SqT.of er),λ_=>[1:?_]⟩;rw [hn,ir.length];exact k'
  |_=>simp [isT,good] at hg
theorem ok_asked (T:Tx K mg a):#[K,2,a.jK,a.jO,["word","held"],sp_asked]:=by
 have Q1:=#[X3,T];exists 9,T.g_asked_or_fault,zc
 erw[h,w,v,d,rfl,hw,iv,k];exists 3,%[#[qL,#[qp,QF,pv 0,qk,qB _],%[|#[qr,#[Q2,#[Qr,#[qz,#[Qa,2,rfl],T.qU,v9,#v[pv 1,#[Q6,.ty "str",T.JU,Uh]]]],#[qE,#v[qk,#[qE,#v[qk,pv 1]]]],#[qE,#v[qk,qk]]]]],qx],#[qL,#[QE,#[Qr,#[qt,Q1,hr.mono (),T.g_is_name,#v[pv 1]]]],%[|#[qr,#[qE,#v[qk,qk]]]],qx]|#[qr,#[qE,#v[qk,#[qE,#v[#[Q2,#[qp,QF,pv 0,qk,qB _],qk,qk],pv 1]]]]]]
 have two:(2:Nat)<=sizeLine:=by decide
 have st:∀{H:Hp} (z:Str),z.length<=100->Is H (.str z) (.str z):=λz hz=>[1:yD ()]
 have fl:∀(z:Str) (H:Hp) (l:o3),z.length<=100->H l=U_->Is (upd H l (.tup [.str "fault",.str z])) (flt z) (.ref l):=λz H l hz U=>Is.new (ds:= [.str "fault",.str z]) ⟨_,0,st _ (),_,0,st _ hz,1⟩ U
 exists 0,1,0;by_cases c:w="names"
 ·subst c;refine QK () ?_
  have ea:askF "names" d=if isStr d=v_ then .tup [.str "asks",.tup [.str "names",d]] else flt "kind":=by unfold askF;rw [Aa rfl]
  rw [ea] at k
  exists 0,v,"str",tyD d,isStr d,1,iv.ty,jq _,0;cases hs:isStr d with
  |true=>
   rw [hs] at k;refine iteT [0:two:λl U=>[two:λZ O=> ?_]];have t1:Same H (upd H l (.tup [.str "names",v])):=qf U _;refine k _ _ (t1.trans (qf O _)) ?_;exact Is.new (ds:= [.str "asks",.tup [.str "names",d]]) ⟨_,0,st _ (),_,0,Is.new (ds:= [.str "names",d]) ⟨_,0,st _ (),_,0,iv,1⟩ U,1⟩ O
  |false=>
   rw [hs] at k;exact iteF [two:λl U=>k _ _ (qf U _) (fl "kind" H l () U)]
 ·refine Qq (uh λh=>c (by injection h)) ?_
  have ea:askF w d=if isNm d=v_ then .tup [.str "asks",.tup [.str (if w="ask" then "thing" else "has"),d]] else flt "name":=by unfold askF;rw [A2 c]
  rw [ea] at k
  exists 5
  refine⟨0,v,d,1,iv,λH1 s1=>[0:?_]⟩;cases hs:isNm d with
  |false=>
   rw [hs] at k;exact iteT [two:λl U=>k _ _ (s1.trans (qf U _)) (fl "name" H1 l () U)]
  |true=>
   rw [hs] at k;refine iteF ⟨0,1,0,?_⟩;have aa:∀z:Str,z.length<=100->z=(if w="ask" then("thing":Str) else "has")->∀l,H1 l=U_->∀Z,(upd H1 l (.tup [.str z,v])) Z=U_->Q (.ref Z) (upd (upd H1 l (.tup [.str z,v])) Z (.tup [.str "asks",.ref l])):=by
    intro z hz ez l U Z O;have t1:Same H1 (upd H1 l (.tup [.str z,v])):=qf U _;refine k _ _ (s1.trans (t1.trans (qf O _))) ?_;rw [<-ez];exact Is.new (ds:= [.str "asks",.tup [.str z,d]]) ⟨_,0,st _ (),_,0,Is.new (ds:= [.str z,d]) ⟨_,0,st _ hz,_,0,iv.mono s1.tk,1⟩ U,1⟩ O
   refine ite2 (λc2=> ?_) (λc2=> ?_)
   ·have e:w="ask":=by have:=uA c2;injection this
    exact⟨0,two,λl U=>⟨two,λZ O=>aa "thing" () (by rw [Aa e]) l U Z O⟩⟩
   ·have e:w≠"ask":=λe=>c2 (uf (by rw [e]))
    exact⟨0,two,λl U=>⟨two,λZ O=>aa "has" () (by rw [A2 e]) l U Z O⟩⟩
end
structure Mc where
 (x db dg:o3)
 rs:oj Rw
 own:Str
structure Rn where
 B:Str->D
 p:Int
 n:Nat
 gs:oj D
 th:D
def MTH:oj Str:= ["now","answer","asked","lines","copy","go_on","is_waiting","do_row","hold"]
structure Fl (fs:oj (Str×V))(rv ru:V)(own:Str)(db dg:o3)(place:Int)(done:Nat)(tv:V):Prop where
 rows:fs.lookup ("rows":Str)=u_ rv
 rule:fs.lookup ("rule":Str)=u_ ru
 own:fs.lookup ("own":Str)=u_ (.str own)
 boxes:fs.lookup ("boxes":Str)=u_ (.ref db)
 place:fs.lookup ("place":Str)=u_ (.int place)
 done:fs.lookup ("done":Str)=u_ (.int (done:Int))
 given:fs.lookup ("given":Str)=u_ (.ref dg)
 there:fs.lookup ("there":Str)=u_ tv
 meth:∀m∈MTH,fs.lookup m=U_
 len:fs.length<=20
theorem YX {f:Str}{v:V}:∀{fs:oj (Str×V)}{u:V},fs.lookup f=u_ u->(putF f v fs).length=fs.length
 |(g,x)::r,u,h=>by
  unfold putF;by_cases c:g=f
  ·rw [Aa c];rfl
  ·rw [A2 c,um,um];have e:(f==g)=false:=by simp;exact λz=>c z.symm
   rw [vk,e] at h;rw [YX (u:=u) h]
 | [],u,h=>by simp at h
section
variable {fs:oj (Str×V)}{rv ru:V}{own:Str}{db dg:o3}{place:Int}{done:Nat}{tv:V}
variable {u:V}
theorem Fl.set_there (h:Fl fs rv ru own db dg place done tv):Fl (putF "there" (u) fs) rv ru own db dg place done u:=by
 refine⟨?_,?_,?_,?_,?_,?_,?_,?_,λm hm=> ?_,by rw [YX h.there];exact h.len⟩
 all_goals rw [qH]
 all_goals first|rw [Aa rfl]|(rw [A2 ()];first|exact h.rows|exact h.rule|exact h.own|exact h.boxes|exact h.place|exact h.done|exact h.given|exact h.there)|(rw [A2 (λe=>by subst e;revert hm;decide+kernel)];exact h.meth m hm)
theorem Fl.set_place {q:Int}(h:Fl fs rv ru own db dg place done tv):Fl (putF "place" (.int q) fs) rv ru own db dg q done tv:=by
 refine⟨?_,?_,?_,?_,?_,?_,?_,?_,λm hm=> ?_,by rw [YX h.place];exact h.len⟩
 all_goals rw [qH]
 all_goals first|rw [Aa rfl]|(rw [A2 ()];first|exact h.rows|exact h.rule|exact h.own|exact h.boxes|exact h.place|exact h.done|exact h.given|exact h.there)|(rw [A2 (λe=>by subst e;revert hm;decide+kernel)];exact h.meth m hm)
theorem Fl.set_done {k:Nat}(h:Fl fs rv ru own db dg place done tv):Fl (putF "done" (.int ((k:Nat):Int)) fs) rv ru own db dg place k tv:=by
 refine⟨?_,?_,?_,?_,?_,?_,?_,?_,λm hm=> ?_,by rw [YX h.done];exact h.len⟩
 all_goals rw [qH]
 all_goals first|rw [Aa rfl]|(rw [A2 ()];first|exact h.rows|exact h.rule|exact h.own|exact h.boxes|exact h.place|exact h.done|exact h.given|exact h.there)|(rw [A2 (λe=>by subst e;revert hm;decide+kernel)];exact h.meth m hm)
end
def Yc (C:o3)(H:Hp)(m:Mc)(r:Rn):Prop:=
 ∃(dx:o3) (fs:oj (Str×V)) (rv ru tv:V) (gv:oj V),H m.x=u_ (.ins C dx fs)/\Fl fs rv ru m.own m.db m.dg r.p r.n tv/\Is H (.tup (m.rs.map rowD)) rv/\Is H (xk m.rs) ru/\Ym H m.db r.B/\H m.dg=u_ (.lst gv)/\L2.IsL H r.gs gv/\Is H r.th tv
structure Mv (m:Mc)(H H':Hp):Prop where
 kept:∀b o,H b=u_ o->b≠m.x->b≠m.db->b≠m.dg->H' b=u_ o
 tk:Tk H H'
theorem Mv.refl (m:Mc)(H:Hp):Mv m H H:=[λ_ _ e _ _ _=>e:Tk.refl H]
variable {H H1 H2:Hp}
theorem Mv.trans {m:Mc}(h:Mv m H H1)(h2:Mv m H1 H2):Mv m H H2:=[λb o e n1 O U=>h2.kept b o (h.kept b o e n1 O U) n1 O U:h.tk.trans h2.tk]
variable {H':Hp}
theorem Mv.of {m:Mc}(s:Same H H'):Mv m H H':=[λb o e _ _ _=>s b o e:s.tk]
variable {C:o3}
theorem Yc.same {m:Mc}{r:Rn}(h:Yc C H m r)(s:Same H H'):Yc C H' m r:=
 let⟨dx,fs,rv,ru,tv,gv,e,f,i,j,b,g,gl,t⟩:=h;⟨dx,fs,rv,ru,tv,gv,s _ _ e,f,i.mono s.tk,j.mono s.tk,b.same s,s _ _ g,gl.mono s.tk,t.mono s.tk⟩
variable {dx:o3}
theorem Ym.ne {x db:o3}{fs:oj (Str×V)}{B:Str->D}(e:H x=u_ (.ins C dx fs))(h:Ym H db B):db≠x:=λz=>by
 erw[h,f,O,_];rw [z,e] at O;cases O
variable {fs':oj (Str×V)}{rv:V}
theorem yj {m:Mc}{r:Rn}{fs:oj (Str×V)}{ru tv:V}{O:oj V}(e:H m.x=u_ (.ins C dx fs))(f:Fl fs' rv ru m.own m.db m.dg r.p r.n tv)(i:Is H (.tup (m.rs.map rowD)) rv)(j:Is H (xk m.rs) ru)(b:Ym H m.db r.B)(U:H m.dg=u_ (.lst O))(Z:L2.IsL H r.gs O)(t:Is H r.th tv):
  Yc C (upd H m.x (.ins C dx fs')) m r/\Mv m H (upd H m.x (.ins C dx fs')):=by
 have tk:Tk H (upd H m.x (.ins C dx fs')):=Tk.updI e;have n1:m.db≠m.x:=Ym.ne e b;have n2:m.dg≠m.x:=λz=>by rw [z,e] at U;cases U
 exact⟨⟨dx,fs',rv,ru,tv,O,qg,f,i.mono tk,j.mono tk,b.move tk (qh n1),by rwa [qh n2],Z.mono tk,t.mono tk⟩,⟨λc o h a1 _ _=>by rwa [qh a1],tk⟩⟩
def QS:D->Bool
 | .tup (.str w::_)=>decide (w="asks")
 |_=>V9
def Th (d:D):Prop:=d= .non∨∃w e,d= .tup [.str w,e]
inductive Out where
 |go (B:Str->D) (p:Int)|stop (e:D)
def Out.B (B:Str->D):Out->Str->D
 | .go B' _=>B'
 | .stop _=>B
def Out.P (p:Int):Out->Int
 | .go _ p'=>p'
 | .stop _=>p
def Out.T:Out->D
 | .go _ _=> .non
 | .stop e=>e
def holdO (B:Str->D)(z:Str)(e:D)(p:Int):Out:=match e with
 | .non=> .stop (flt "kind")
 |e=>if isT e=v_ then .go (setB B z e) (p+1) else .stop (flt "big")
inductive sp_now (C:Addr) (vs:List V) (H:Hp) (Q:VK) (E_:XK):Prop
 |mk (m:Mc) (r:Rn) (_:vs= [.ref m.x]) (_:Yc C H m r) (_:∀v,Is H r.th v->Q v H)
inductive sp_asks (C:Addr) (vs:List V) (H:Hp) (Q:VK) (E_:XK):Prop
 |mk (m:Mc) (r:Rn) (_:vs= [.ref m.x]) (_:Yc C H m r) (_:∀v H',Same H H'->Is H' (.tup r.gs) v->Q v H')
inductive sp_wait (C:Addr) (vs:List V) (H:Hp) (Q:VK) (E_:XK):Prop
 |mk (m:Mc) (r:Rn) (_:vs= [.ref m.x]) (_:Yc C H m r) (_:Th r.th) (_:Q (.bl (QS r.th)) H)
inductive sp_hold (C:Addr) (vs:List V) (H:Hp) (Q:VK) (E_:XK):Prop
 |mk (m:Mc) (r:Rn) (z:Str) (v:V) (e:D) (_:vs= [.ref m.x,.str z,v]) (_:Yc C H m r) (_:r.th= .non) (_:z∈BX) (_:Is H e v) (_:∀H',Mv m H H'->Yc C H' m ⟨(holdO r.B z e r.p).B r.B,(holdO r.B z e r.p).P r.p,r.n,r.gs,(holdO r.B z e r.p).T⟩->Q .non H')
section
variable {P:o9}{w:og}{K:o0}{mg:Str->om o6}{base:o8}{a:Ad}{g:Ga}
theorem ok_now (T:Tx K mg a):#[K,1,a.XD,a.Xg,["self"],(sp_now a.qo)]:=by
 exists 9,T.g_Machine_now,Wr,O
 erw[h,m,r,rfl,[dx,fs,rv,ru,tv,U,e,f,Z,iu,ib,hg,gl,it],k];exists 3,%[|#[qr,#[qO,5,pv 0,rfl]]]
 exact⟨0,m.x,_,dx,fs,tv,1,e,T.qv,T.qN,f.there,k _ it⟩
theorem ok_asks (T:Tx K mg a):#[K,1,a.JC,a.Jq,["self"],(sp_asks a.qo)]:=by
 exists 9,T.g_Machine_asked,Zp
 erw[h,m,r,rfl,[dx,fs,rv,ru,tv,U,e,f,ir,iu,ib,Z,gl,it],k];exists 3,%[|#[qr,#[qK,qG,T.Qk,vc,#v[#[qO,5,pv 0,rfl]]]]]
 exact⟨0,m.x,_,dx,fs,0,e,T.qv,T.Yz,f.given,m.dg,U,1,.inl [SqL.of Z:λl O=>k _ _ (qf O _) (Is.new gl O)]⟩
theorem ok_wait (T:Tx K mg a):#[K,1,a.Yk,a.Yl,["self"],(sp_wait a.qo)]:=by
 exists 9,T.g_Machine_is_waiting,Jo
 erw[h,m,[B,p,n,gs,th],rfl,[dx,fs,rv,ru,tv,gv,e,f,ir,Z,ib,hg,gl,it],O,k];simp only at f ib gl it O k;exists 3,%[|#[qr,#[pe_and,7,#[yJ,Ki,#[qO,5,pv 0,rfl],qW,qB _],#[pe_one,#[yJ,QF,#[qJ,J3,#[qO,5,pv 0,rfl],qi],qk,qB _]]]]]
 exists 0,m.x,_,dx,fs,tv,1,e,T.qv,T.qN,f.there,1;rcases O with rfl|⟨w1,e1,rfl⟩
 ·cases(show tv= .non from it)
  exact[0:Qq () k]
 ·have U:=it;erw[U,t0,us,rfl,et,Z]
  exists 5
  refine⟨0,QK (by simp) ⟨0,m.x,_,dx,fs,0,e,T.qv,T.qN,f.there,?_⟩⟩
  refine .inr (.inl (xJ (i:=0) (d:= .str w1) it (Qc (j:=0) rfl) λq hq=> ?_));erw[hq,rfl,_]
  exists 1;have ew:decide (V.str w1=V.str ("asks":Str))=decide (w1="asks"):=by
   rw [uZ];exact⟨λh=>by injection h,λh=>by rw [h]⟩
  rw [ew];exact k
theorem ok_hold (T:Tx K mg a):#[K,3,a.J4,a.J8,["self","box","tree"],(sp_hold a.qo)]:=by
 have yB:=#[jh,T];exists 9,T.g_Machine_hold,wm
 erw[h,m,[B,p,n,gs,th],z,v,d,rfl,[dx,fs,rv,ru,tv,gv,e,f,ir,iu,ib,hg,gl,it],aa,hz,O,k];simp only at f ib gl it aa k;subst aa;exists 3,%[|#[qL,#[qp,Yb,pv 2,qW,qB _],%[|#[Qg,#[qE,#v[qk,qk]]]],%[|#[qL,#[QE,#[Qr,#[qt,yB,hr.mono (),T.g_is_tree,#v[pv 2]]]],%[|#[Qg,#[qE,#v[qk,qk]]]],%[#[Js,#[qO,5,pv 0,rfl],pv 1,pv 2]|#[Jx,10,pv 0,qi,in_add]]]]]]
 have two:(2:Nat)<=sizeLine:=by decide
 have st:∀{H:Hp} (z:Str),z.length<=100->Is H (.str z) (.str z):=λz hz=>[1:yD ()]
 have fl:∀(z:Str) (H:Hp) (l:o3),z.length<=100->H l=U_->Is (upd H l (.tup [.str "fault",.str z])) (flt z) (.ref l):=λz H l hz U=>Is.new (ds:= [.str "fault",.str z]) ⟨_,0,st _ (),_,0,st _ hz,1⟩ U
 exists 0,1,0;have Z:fs.length<1000:=by have:=f.len;omega
 by_cases c:d= .non
 ·subst c;cases(show v= .non from O)
  refine QK () [two:λl U=> ?_]
  have s1:Same H (upd H l (.tup [.str "fault",.str "kind"])):=qf U _
  exists 0,m.x,_,dx,fs,1,s1 _ _ e,T.qv,T.qN,Z;erw[yj (r:=⟨B,p,n,gs,flt "kind"⟩) (s1 _ _ e) (f.set_there (u:= .ref l)) (ir.mono s1.tk) (iu.mono s1.tk) (ib.same s1) (s1 _ _ hg) (gl.mono s1.tk) (fl "kind" H l () U),m1,m2]
  exact k _ ((Mv.of s1).trans m2) m1
 ·have hv:v≠ .non:=by
   rintro rfl;cases d with
   |non=>exact c rfl
   |bl b=>cases(show V.non= .bl b from O)
   |int i=>cases(show V.non= .int i from O)
   |str z=>erw[O,h,_];cases h
   |lst=>erw[O,_,_,h,_];cases h
   |dct=>erw[O,_,_,h,_];cases h
   |tup xs=>erw[O,_,_,h,_];cases h
  have eo:holdO B z d p=if isT d=v_ then .go (setB B z d) (p+1) else .stop (flt "big"):=by
   cases d with
   |non=>exact absurd rfl c
   |_=>rfl
  rw [eo] at k;refine Qq (uh hv) ?_
  exists 5
  refine⟨0,v,d,1,O,λH1 s1=>[0:?_]⟩;cases ht:isT d with
  |false=>
   rw [ht] at k;refine iteT [two:λl U=> ?_];have s2:Same H (upd H1 l (.tup [.str "fault",.str "big"])):=s1.trans (qf U _)
   exists 0,m.x,_,dx,fs,1,s2 _ _ e,T.qv,T.qN,Z;erw[yj (r:=⟨B,p,n,gs,flt "big"⟩) (s2 _ _ e) (f.set_there (u:= .ref l)) (ir.mono s2.tk) (iu.mono s2.tk) (ib.same s2) (s2 _ _ hg) (gl.mono s2.tk) (fl "big" H1 l () U),m1,m2]
   exact k _ ((Mv.of s2).trans m2) m1
  |true=>
   rw [ht] at k;refine iteF ?_;have ad:=O.mono s1.tk;erw[(ib.same s1).put hz ad,kvs,ac,ae,t2];have n1:m.db≠m.x:=Ym.ne e ib;have n3:m.dg≠m.db:=λz=>by
    erw[ib,ff,e2,_];rw [z,e2] at hg;cases hg
   have e1:=s1 _ _ e;have e3:(upd H1 m.db (.dK kvs)) m.x=u_ (.ins a.qo dx fs):=by rwa [qh n1.symm]
   exists 0,0,m.x,_,dx,fs,0,e1,T.qv,T.Qv,f.boxes,0,m.db,0,ac
   exists 0,m.x,_,dx,fs,0,e3,T.qv,T.Qm,f.place,p,(1),1,1,dx,fs,e3,Z;obtain⟨m1,m2⟩:=yj (r:=⟨setB B z d,p+1,n,gs,.non⟩) e3 (f.set_place (q:=p+1)) ((ir.mono s1.tk).mono t2) ((iu.mono s1.tk).mono t2) ae (by rw [qh n3];exact s1 _ _ hg) ((gl.mono s1.tk).mono t2) it
   exact k _ ((Mv.of s1).trans (Mv.trans ⟨λb o h _ a2 _=>by rwa [qh a2],t2⟩ m2)) m1
def MKR:oj Str:= ["text","self","copy","row","put","join","first","rest","size","cut","glue"]
def lineNo (ps:oj Pt):Int:=match ps.getLast? with
 |some (.n i)=>i
 |_=>0
def rowO (own:Str)(r:Rw)(B:Str->D)(p:Int):Out:=
 if r.1∈MKR then holdO B (b0 r.2) (made r.1 B own r.2) p else if r.1∈ASK then .stop (askF r.1 (B (b1 r.2))) else if r.1="say" then .stop (.tup [.str "said",B (b0 r.2)]) else
 if r.1="fault" then .stop (flt "told") else if jump r.1 B r.2=v_ then .go B (lineNo r.2) else .go B (p+1)
theorem frm_mk:∀x∈FRM,x.1∈MKR->x.2.head? =u_ .box:=by decide+kernel
theorem wN:∀x∈FRM,x.1∈ASK->x.1∉MKR/\x.1∈NOMK/\x.2= [.box,.box]:=by decide+kernel
theorem frm_say:∀x∈FRM,x.1="say"->x.2= [.box]:=by decide+kernel
theorem frm_all:∀x∈FRM,x.1∈MKR∨(x.1∉MKR/\x.1∈NOMK/\(x.1∈ASK∨x.1∉ASK/\(x.1="say"∨x.1="fault"∨x.1≠"say"/\x.1≠"fault"/\x.1∈JMP))):=by decide+kernel
theorem frm_jmp:∀x∈FRM,x.1∈JMP->x.2.getLast? =u_ .line:=by decide+kernel
variable {r:Rw}
theorem mk_b0 {m:Nat}(h:jS n m r)(U:r.1∈MKR):∃z ps,r.2= .s z::ps/\z∈BX:=by
 erw[h,ks,Z,O];have:=frm_mk _ Z U
 match ks,O,this with
 | .box::ks,O,_=>
  match h2:r.2,O with
  | .s z::ps,O=>exact⟨z,ps,1,O.1⟩
  | .n _::_,O=>exact O.1.elim
theorem kr {n m:Nat}:∀{ks:oj Kd}{ps:oj Pt},xR n m ks ps->ks.getLast? =u_ .line->∃qs i,ps=qs++ [.n i]/\1<=i/\i<=(n:Int)
 | [k],[p],h,e=>by
  cases e;cases p with
  |n i=>exact⟨[],i,1,h.1⟩
  |s z=>exact h.1.elim
 |k::k2::ks,p::p2::ps,h,e=>by
  rw [UU] at e;erw[kr (ks:=k2::ks) (ps:=p2::ps) h.2 e,qs,i,O,hi];exact⟨p::qs,i,by rw [O];rfl,hi⟩
 | [k],p::_::_,h,_=>h.2.elim
 |k::_::_,[p],h,_=>h.2.elim
 | [],[],_,e=>by cases e
 | [],_::_,h,_=>h.elim
 |_::_,[],h,_=>h.elim
theorem jmp_last {m:Nat}(h:jS n m r)(O:r.1∈JMP):∃qs i,r.2=qs++ [.n i]/\1<=i/\i<=(n:Int)/\lineNo r.2=i:=by
 erw[h,ks,U,Z];erw[kr Z (frm_jmp _ U O),qs,i,e,h1,h2];exists qs,i,e,h1,h2;unfold lineNo;rw [e,List.getLast?_concat]
inductive sp_dorow (C:Addr) (vs:List V) (H:Hp) (Q:VK) (E_:XK):Prop
 |mk (m:Mc) (r:Rn) (rw:Rw) (v:V) (k:Nat) (_:vs= [.ref m.x,v]) (_:Yc C H m r) (_:r.th= .non) (_:Tr r.B) (_:m.own.length<=100) (_:jS k 300 rw) (_:Is H (rowD rw) v) (_:∀H',Mv m H H'->Yc C H' m ⟨(rowO m.own rw r.B r.p).B r.B,(rowO m.own rw r.B r.p).P r.p,r.n,r.gs,(rowO m.own rw r.B r.p).T⟩->Q .non H')
variable {x:Str}
theorem mk_of (T:Tx K mg a)(C:Fx K w mg g a)(h:x∈MKR):∃f fd,PySem.W.nsIn K g.makers x=u_ (u_ (.ref f))/\FnOk P w K mg base CX0 1 f fd ["boxes","own","parts"] (Xq x)/\zD K fd ["boxes","own","parts"] []/\PySem.W.keepIn K (.ref f)=true:=by
 simp![MKR,uC,uD,uO] at h;rcases h with rfl|rfl|rfl|rfl|rfl|rfl|rfl|rfl|rfl|rfl|rfl
 ·exact⟨_,_,C.k_text,ok_text T,T.g_text_made.b,T.g_text_made.F.kp⟩
 ·exact⟨_,_,C.k_self,ok_self T,T.g_self_made.b,T.g_self_made.F.kp⟩
 ·exact⟨_,_,C.k_copy,ok_copy T,T.g_copy_made.b,T.g_copy_made.F.kp⟩
 ·exact⟨_,_,C.k_row,ok_row T,T.g_row_made.b,T.g_row_made.F.kp⟩
 ·exact⟨_,_,C.k_put,ok_put T,T.g_put_made.b,T.g_put_made.F.kp⟩
 ·exact⟨_,_,C.k_join,ok_join T,T.g_join_made.b,T.g_join_made.F.kp⟩
 ·exact⟨_,_,C.k_first,ok_first T,T.g_first_made.b,T.g_first_made.F.kp⟩
 ·exact⟨_,_,C.k_rest,ok_rest T,T.g_rest_made.b,T.g_rest_made.F.kp⟩
 ·exact⟨_,_,C.k_size,ok_size T,T.g_size_made.b,T.g_size_made.F.kp⟩
 ·exact⟨_,_,C.k_cut,ok_cut T,T.g_cut_made.b,T.g_cut_made.F.kp⟩
 ·exact⟨_,_,C.k_glue,ok_glue T,T.g_glue_made.b,T.g_glue_made.F.kp⟩
theorem ok_dorow (T:Tx K mg a)(C:Fx K w mg g a):#[K,4,a.jP,a.jM,["self","row"],(sp_dorow a.qo)]:=by
 have wb:=#[ok_jump,T];have Zs:=#[ok_asked,T];have Wj:=#[ok_hold,T];exists 9,T.g_Machine_do_row,yL
 erw[h,m,[B,p,n,gs,th],r,v,nn,rfl,M,af,hT,ho,ad,iv,k];simp only at af hT k;subst af;exists 3,%[#[qD,(2),yL.nd,#[qJ,qI,pv 1,qi]],#[qD,(3),yL.nd,#[qJ,qI,pv 1,qi]]|#[qL,#[qp,op_inK,pv 2,#[pe_gR,C.m_MAKERS],#[w]],%[|#[qY,#[Qi,pv 0,T.qv,T.g_Machine_hold,Wj,#v[#[qJ,qI,pv 3,qi],#[pe_callX,9,(1),5,⟨1,1,1,1,1⟩,#[qJ,ix_K,#[pe_gR,C.m_MAKERS],pv 2],hr.mono (),#v[#[qO,5,pv 0,rfl],#[qO,5,pv 0,rfl],pv 3],_,_]]]]],%[|#[qL,#[qp,Qt,pv 2,#[pe_gR,C.m_ASKING],#[w]],%[|#[Qg,#[qt,Zs,hr.mono (),T.g_asked_or_fault,#v[pv 2,#[Qz,#[qO,5,pv 0,rfl],#[qJ,qI,pv 3,qi]]]]]],%[|#[qL,#[qp,QF,pv 2,qk,qB _],%[|#[Qg,#[qE,#v[qk,#[Qz,#[qO,5,pv 0,rfl],#[qJ,qI,pv 3,qi]]]]]],%[|#[qL,#[qp,QF,pv 2,qk,qB _],%[|#[Qg,#[qE,#v[qk,qk]]]],%[|#[qL,#[Qr,#[qt,wb,hr.mono (),T.g_is_jump_taken,#v[#[qO,5,pv 0,rfl],pv 2,pv 3]]],%[|#[Qg,#[qJ,qI,pv 3,#[kT,6,Xp,qi]]]],%[|#[Jx,10,pv 0,qi,in_add]]]]]]]]]]]]
 have two:(2:Nat)<=sizeLine:=by decide
 erw[r,U,ps];erw[iv,t0,us,rfl,et,iu];erw[iu,v1,u1,rfl,[rfl,aq],v2,u2,rfl,i2,e2];cases(show u2= [] from e2)
 exists 0,t0,_,(0),0,1,SqT.of et,1
 exists 0,t0,_,(1),0,1,SqT.of et,1;erw[id i2,t1,au,rfl,aw,ax];have ac:PtsAt H t1 ps:=i2;have al:=ad;erw[al,ks,hk,hp];have hM:=M;erw[hM,dx,fs,rv,ru,tv,gv,e,f,ir,ij,ib,hg,gl,it];simp only at f ib gl it;have ae:fs.length<1000:=by have:=f.len;omega
 rcases frm_all _ hk with Z|⟨Z,am,aa⟩
 ·erw[mk_of (P:=P) (base:=base) T C Z,fa,fd,hn,hF,hb,ao];erw[mk_b0 ad Z,z,qs,rfl,ap];have eo:rowO m.own (U,.s z::qs) B p=holdO B z (made U B m.own (.s z::qs)) p:=by unfold rowO;rw [Aa Z];rfl
  rw [eo] at k
  exists 0,U,g.makers,0,1,C.km,hn,0;refine iteT ?_
  exists 0,m.x,dx,fs,1,e,f.meth _ (),0
  dsimp![tC];refine box_at (i:=0) ac rfl ?_
  exists 0,U,g.makers,_,.ref fa,1,1,C.km,hn,1,fa,fd,_,Xq U,1,hF,hb,ao
  exists 0,m.x,_,dx,fs,0,e,T.qv,T.Qv,f.boxes,0,m.x,_,dx,fs,0,e,T.qv,T.XN,f.own,0
  exists 5
  refine⟨m.db,t1,m.own,B,.s z::qs,nn,1,ib,hT,ho,ad,ac,λv H1 s1 hv=> ?_⟩;exact⟨m,⟨B,p,n,gs,.non⟩,z,v,0,M.same s1,1,ap,hv,λH2 m2 M2=>k H2 ((Mv.of s1).trans m2) M2⟩
 ·exists 0,U,g.makers,0,1,C.km,C.k_no _ am,0;refine iteF ?_
  exists 0,g.asking,0,.inr (C.asking _),1,1,0;have ei:inV (.str U) [.str "ask",.str "has",.str "names"]=decide (U∈ASK):=xB (z:=U) (l:=ASK);rw [A2 u5,ei];rcases aa with O|⟨O,aa⟩
  ·refine QK (uf O) ?_;erw[wN _ hk O,_,_,ek];simp only at ek;subst ek;erw[wD hp,z0,z1,rfl,h0,h1];have eo:rowO m.own (U,[.s z0,.s z1]) B p= .stop (askF U (B z1)):=by unfold rowO;rw [A2 Z,Aa O];rfl
   rw [eo] at k
   exists 0,0,m.x,_,dx,fs,0,e,T.qv,T.Qv,f.boxes,0;dsimp![tC];refine bget (i:=1) ib ac rfl h1 λv hv=> ?_
   exists 5
   refine⟨U,v,B z1,1,O,hv,λu H1 s1 hu=> ?_⟩
   exists 0,m.x,_,dx,fs,1,s1 _ _ e,T.qv,T.qN,ae;erw[yj (r:=⟨B,p,n,gs,askF U (B z1)⟩) (s1 _ _ e) (f.set_there (u:=u)) (ir.mono s1.tk) (ij.mono s1.tk) (ib.same s1) (s1 _ _ hg) (gl.mono s1.tk) hu,m1,m2];exact k _ ((Mv.of s1).trans m2) m1
  ·refine Qq (uh O) ?_
   exists 0,1,0;have es:∀y:Str,decide (V.str U=V.str y)=decide (U=y):=λy=>by
    rw [uZ];exact⟨λh=>by injection h,λh=>by rw [h]⟩
   rcases aa with rfl|rfl|⟨hs,hf,hj⟩
   ·refine QK (uf rfl) ?_;have ek:=frm_say _ hk rfl;simp only at ek;subst ek;erw[sh_b hp,z0,rfl,h0];have eo:rowO m.own ("say",[.s z0]) B p= .stop (.tup [.str "said",B z0]):=by unfold rowO;rw [A2 Z,A2 O,Aa rfl];rfl
    rw [eo] at k
    exists 0,m.x,_,dx,fs,0,e,T.qv,T.Qv,f.boxes,0;dsimp![tC];refine bget (i:=0) ib ac rfl h0 λv hv=> ?_
    exists 5
    refine[two:λl hl=> ?_];have s1:Same H (upd H l (.tup [.str "said",v])):=qf hl _
    exists 0,m.x,_,dx,fs,1,s1 _ _ e,T.qv,T.qN,ae;erw[yj (r:=⟨B,p,n,gs,.tup [.str "said",B z0]⟩) (s1 _ _ e) (f.set_there (u:= .ref l)) (ir.mono s1.tk) (ij.mono s1.tk) (ib.same s1) (s1 _ _ hg) (gl.mono s1.tk) (Is.new (ds:= [.str "said",B z0]) ⟨_,0,[1:yD ()],_,0,hv,1⟩ hl),m1,m2]
    exact k _ ((Mv.of s1).trans m2) m1
   ·have ag:¬(("fault":Str)="say"):=by decide+kernel
    refine Qq (uh λh=>ag (by injection h)) ?_
    exists 5
    refine⟨0,1,0,QK (uf rfl) ?_⟩;have eo:rowO m.own ("fault",ps) B p= .stop (flt "told"):=by unfold rowO;rw [A2 Z,A2 O,A2 ag,Aa rfl]
    rw [eo] at k
    exists 5
    refine[two:λl hl=> ?_];have s1:Same H (upd H l (.tup [.str "fault",.str "told"])):=qf hl _
    exists 0,m.x,_,dx,fs,1,s1 _ _ e,T.qv,T.qN,ae;erw[yj (r:=⟨B,p,n,gs,flt "told"⟩) (s1 _ _ e) (f.set_there (u:= .ref l)) (ir.mono s1.tk) (ij.mono s1.tk) (ib.same s1) (s1 _ _ hg) (gl.mono s1.tk) (Is.new (ds:= [.str "fault",.str "told"]) ⟨_,0,[1:yD ()],_,0,[1:yD ()],1⟩ hl),m1,m2]
    exact k _ ((Mv.of s1).trans m2) m1
   ·refine Qq (by rw [es];exact uh hs) ?_
    exists 5
    refine⟨0,1,0,Qq (by rw [es];exact uh hf) ?_⟩
    have eo:rowO m.own (U,ps) B p=if jump U B ps=v_ then .go B (lineNo ps) else .go B (p+1):=by unfold rowO;rw [A2 Z,A2 O,A2 hs,A2 hf]
    rw [eo] at k;erw[jmp_last ad hj,qs,i,ah,h1,h2,hl];simp only at ah hl
    exists 0,m.x,_,dx,fs,0,e,T.qv,T.Qv,f.boxes,0,0,m.db,t1,U,B,ps,nn,1,ib,hT,hj,ad,ac,0;cases ak:jump U B ps with
    |true=>
     rw [ak] at k;refine iteT ⟨0,(1),1,?_⟩;refine xJ (i:= -1) (d:= .int i) ac (by rw [ah,uu];exact yY _ _) λq hq=> ?_
     cases(show q= .int i from hq)
     exists 0,m.x,_,dx,fs,1,e,T.qv,T.Qm,ae;erw[yj (r:=⟨B,i,n,gs,.non⟩) e (f.set_place (q:=i)) ir ij ib hg gl it,m1,m2];refine k _ m2 ?_;show Yc _ _ _ ⟨B,lineNo ps,n,gs,.non⟩;rwa [hl]
    |false=>
     rw [ak] at k;refine iteF ⟨0,m.x,_,dx,fs,0,e,T.qv,T.Qm,f.place,p,(1),1,1,dx,fs,e,ae,?_⟩;erw[yj (r:=⟨B,p+1,n,gs,.non⟩) e (f.set_place (q:=p+1)) ir ij ib hg gl it,m1,m2];exact k _ m2 m1
def jW (rs:oj Rw)(p:Int):Rw:=rs.getD (p.toNat-1) ("fault",[])
def runS (rs:oj Rw)(own:Str)(gs:oj D):Nat->(Str->D)->Int->Nat->Rn
 |0,B,p,n=>⟨B,p,n,gs,if p>rs.length then flt "silent" else flt "long"⟩
 |f+1,B,p,n=>if p>rs.length then⟨B,p,n,gs,flt "silent"⟩ else match rowO own (jW rs p) B p with
  | .go B' p'=>runS rs own gs f B' p' (n+1)
  | .stop e=>⟨B,p,if QS e=v_ then n else n+1,gs,e⟩
variable {rs:oj Rw}
theorem row_at {p:Int}(h1:1<=p)(h2:p<=rs.length):rs[p.toNat-1]? =u_ (jW rs p):=by
 unfold jW;have h:p.toNat-1<rs.length:=by omega
 simp [VP,h]
theorem kG {p:Int}(h1:1<=p)(h2:p<=rs.length):jW rs p∈rs:=uX (row_at h1 h2)
variable {e:D}
theorem kS {B:Str->D}(h:Tr B)(O:isT e=v_):Tr (setB B z e):=λy U=>by
 unfold setB;by_cases c:y=z
 ·rwa [Aa c]
 ·rw [A2 c];exact h y U
def OutOk (n:Int):Out->Prop
 | .go B p=>Tr B/\1<=p/\p<=n+1
 | .stop e=>∃w d,e= .tup [.str w,d]
theorem holdO_ok {B:Str->D}{p n:Int}(h:Tr B)(h1:1<=p)(h2:p<=n):OutOk n (holdO B z e p):=by
 have O:OutOk n (if isT e=v_ then .go (setB B z e) (p+1) else .stop (flt "big")):=by
  by_cases c:isT e=v_
  ·rw [Aa c];exact[kS h c:():()]
  ·rw [A2 c];exact[_:0]
 cases e with
 |non=>exact[_:0]
 |_=>exact O
theorem askF_ok (w:Str)(d:D):∃u e,askF w d= .tup [.str u,e]:=by
 unfold askF;split
 ·split
  ·exact[_:0]
  ·exact[_:0]
 ·split
  ·exact[_:0]
  ·exact[_:0]
variable {own:Str}
theorem rowO_ok {B:Str->D}{p:Int}(hr:jS n 300 r)(h:Tr B)(h1:1<=p)(h2:p<=n):OutOk n (rowO own r B p):=by
 unfold rowO;by_cases O:r.1∈MKR
 ·rw [Aa O];exact holdO_ok h h1 h2
 rw [A2 O];by_cases U:r.1∈ASK
 ·rw [Aa U];exact askF_ok _ _
 rw [A2 U];by_cases Z:r.1="say"
 ·rw [Aa Z];exact[_:0]
 rw [A2 Z];by_cases c4:r.1="fault"
 ·rw [Aa c4];exact[_:0]
 rw [A2 c4];by_cases c5:jump r.1 B r.2=v_
 ·rw [Aa c5];erw[id hr,ks,hk,hp];have hj:r.1∈JMP:=by
   rcases frm_all _ hk with q|⟨_,_,q|⟨_,q|q|q⟩⟩
   ·exact absurd q O
   ·exact absurd q U
   ·exact absurd q Z
   ·exact absurd q c4
   ·exact q.2.2
  erw[jmp_last hr hj,qs,i,_,a1,a2,a3];exact⟨h,by rwa [a3],by rw [a3];omega⟩
 ·rw [A2 c5];exact[h:():()]
inductive sp_goon (C:Addr) (vs:List V) (H:Hp) (Q:VK) (E_:XK):Prop
 |mk (m:Mc) (r:Rn) (_:vs= [.ref m.x]) (_:Yc C H m r) (_:r.th= .non) (_:Tr r.B) (_:m.own.length<=100) (_:ya m.rs) (_:1<=r.p) (_:r.p<=m.rs.length+1) (_:r.n<=300) (_:∀(H':Hp),Mv m H H'->Yc C H' m (runS m.rs m.own r.gs (300-r.n) r.B r.p r.n)->Q .non H')
theorem ok_goon (T:Tx K mg a)(C:Fx K w mg g a):#[K,5,a.j7,a.Jb,["self"],(sp_goon a.qo)]:=by
 have Zu:=#[ok_dorow,T,C];have Qp:=#[ok_wait,T];exists 9,T.g_Machine_go_on,Zn
 erw[h,[x,db,dg,rs,own],[B0,p0,n0,gs,th],rfl,M0,aw,ax,ho,hR,aE,ay,aF,k];simp only at aw ax ho hR aE ay aF k;subst aw;exists 3,%[|#[jr,#[qp,Yb,#[qO,5,pv 0,rfl],qW,qB _],%[|#[qL,#[qp,op_gt,#[qO,5,pv 0,rfl],#[qz,qP,T.yK,uJ,#v[#[qO,5,pv 0,rfl]]],qB _],%[|#[Qg,#[qE,#v[qk,qk]]]],%[|#[qL,#[qp,QF,#[qO,5,pv 0,rfl],#[k8,T.m_MOST_DONE],qB _],%[|#[Qg,#[qE,#v[qk,qk]]]],%[#[qY,#[Qi,pv 0,T.qv,T.g_Machine_do_row,Zu,#v[#[qJ,qI,#[qO,5,pv 0,rfl],#[qV,op_sub,#[qO,5,pv 0,rfl],qi]]]]]|#[qL,#[QE,#[Qr,#[yg,pv 0,T.qv,T.g_Machine_is_waiting,Qp]]],%[|#[Jx,10,pv 0,qi,in_add]],qx]]]]]]]]
 have two:(2:Nat)<=sizeLine:=by decide
 have n1:=hR.n1;generalize aA:runS rs own gs (300-n0) B0 p0 n0=res at k
 let J1_:Nat->L2.St->Hp->Prop:=λm σ H'=>∃(B:Str->D) (p:Int) (n:Nat) (th:D),σ= [u_ (.ref x)]/\Yc a.qo H' ⟨x,db,dg,rs,own⟩ ⟨B,p,n,gs,th⟩/\Mv ⟨x,db,dg,rs,own⟩ H H'/\Tr B/\1<=p/\p<=rs.length+1/\n<=300/\((th= .non/\runS rs own gs (300-n) B p n=res/\m=301-n)∨((∃u e,th= .tup [.str u,e])/\⟨B,p,n,gs,th⟩=res/\m=0))
 exists J1_,⟨_,B0,p0,n0,.non,1,M0,Mv.refl _ _,ax,(),(),(),.inl [1:aA:1]⟩
 rintro m σ H' ⟨B,p,n,th,rfl,M,mv,hT,ad,al,hn,hc⟩;have hM:=M;erw[hM,dx,fs,rv,ru,tv,gv,e,f,ir,ij,ib,hg,gl,it];simp only at e f ir ij ib hg gl it;have aB:fs.length<1000:=by have:=f.len;omega
 exists 0,x,_,dx,fs,tv,1,e,T.qv,T.qN,f.there,1,0;rcases hc with⟨rfl,Z,rfl⟩|⟨⟨u,d,rfl⟩,Z,rfl⟩
 ·cases(show tv= .non from it)
  have ag:∀{H:Hp},Is H .non .non:=rfl;refine QK () ?_
  exists 5
  refine⟨λσ' H2=>∃(B:Str->D) (p:Int) (n2:Nat) (th:D),σ'= [u_ (.ref x)]/\Yc a.qo H2 ⟨x,db,dg,rs,own⟩ ⟨B,p,n2,gs,th⟩/\Mv ⟨x,db,dg,rs,own⟩ H H2/\Tr B/\1<=p/\p<=rs.length+1/\n2<=300/\((th= .non/\runS rs own gs (300-n2) B p n2=res/\n<n2)∨((∃u e,th= .tup [.str u,e])/\⟨B,p,n2,gs,th⟩=res)),?_,?_⟩
  ·rintro σ' H2 ⟨B2,p2,n2,aM,rfl,M2,ae,aC,a1,a2,a3,aG⟩;rcases aG with⟨rfl,q1,q2⟩|⟨q0,q1⟩
   ·exact⟨301-n2,(),B2,p2,n2,0,M2,ae,aC,a1,a2,a3,.inl [1:q1:1]⟩
   ·exact⟨(0),(),B2,p2,n2,0,M2,ae,aC,a1,a2,a3,.inr [q0:q1:1]⟩
  ·have aH:=ir;erw[aH,ta,us,rfl,aI,iu];have aN:us.length=rs.length:=by rw [iu.length,uc]
   have fl:∀(z:Str) (H:Hp) (l:o3),z.length<=100->H l=U_->Is (upd H l (.tup [.str "fault",.str z])) (flt z) (.ref l):=λz H l hz hl=>Is.new (ds:= [.str "fault",.str z]) ⟨_,0,[1:yD ()],_,0,[1:yD ()],1⟩ hl
   have aa:∀(z:Str),z.length<=100->⟨B,p,n,gs,flt z⟩=res->∀l,H' l=U_->(λH2=>∃(B:Str->D) (p:Int) (n2:Nat) (th:D),[u_ (V.ref x)]= [u_ (V.ref x)]/\Yc a.qo H2 ⟨x,db,dg,rs,own⟩ ⟨B,p,n2,gs,th⟩/\Mv ⟨x,db,dg,rs,own⟩ H H2/\Tr B/\1<=p/\p<=rs.length+1/\n2<=300/\((th= .non/\runS rs own gs (300-n2) B p n2=res/\n<n2)∨((∃u e,th= .tup [.str u,e])/\⟨B,p,n2,gs,th⟩=res))) (upd (upd H' l (.tup [.str "fault",.str z])) x (.ins a.qo dx (putF "there" (.ref l) fs))):=by
    intro z hz aJ l hl;have s1:Same H' (upd H' l (.tup [.str "fault",.str z])):=qf hl _;erw[yj (m:=⟨x,db,dg,rs,own⟩) (r:=⟨B,p,n,gs,flt z⟩) (s1 _ _ e) (f.set_there (u:= .ref l)) (ir.mono s1.tk) (ij.mono s1.tk) (ib.same s1) (s1 _ _ hg) (gl.mono s1.tk) (fl z H' l hz hl),m1,m2];exact⟨B,p,n,flt z,1,m1,mv.trans ((Mv.of s1).trans m2),hT,ad,al,hn,.inr [[_:0]:aJ]⟩
   exists 0,x,_,dx,fs,0,e,T.qv,T.Qm,f.place,0,x,_,dx,fs,0,e,T.qv,T.y7,f.rows,ta,us,1,.inr (SqT.of aI),_,0,1,0;refine ite2 (λc=> ?_) (λc=> ?_)
   ·have c':p>rs.length:=by have:=uA c;omega
    have er:⟨B,p,n,gs,flt "silent"⟩=res:=by
     rw [<-Z];cases h3:300-n with
     |zero=>unfold runS;rw [Aa c']
     |succ q=>unfold runS;rw [Aa c']
    exists 5
    refine[two:λl hl=> ?_];have s1:Same H' (upd H' l (.tup [.str "fault",.str "silent"])):=qf hl _;exact⟨0,x,_,dx,fs,1,s1 _ _ e,T.qv,T.qN,aB,aa "silent" () er l hl⟩
   ·have c':¬p>rs.length:=λh=>c (uf ())
    exists 0,x,_,dx,fs,0,e,T.qv,T.yd,f.done,1,0;refine ite2 (λc2=> ?_) (λc2=> ?_)
    ·have e3:n=300:=by have:=uA c2;injection this with h;omega
     have er:⟨B,p,n,gs,flt "long"⟩=res:=by
      rw [<-Z,e3];show _=runS rs own gs 0 B p 300;unfold runS;rw [A2 c']
     exists 5
     refine[two:λl hl=> ?_];have s1:Same H' (upd H' l (.tup [.str "fault",.str "long"])):=qf hl _;exact⟨0,x,_,dx,fs,1,s1 _ _ e,T.qv,T.qN,aB,aa "long" () er l hl⟩
    ·have e3:n<300:=by
      rcases UN n 300 with h|h
      ·exact h
      ·exact absurd (uf (by rw [show n=300 by omega];rfl)) c2
     have am:p<=rs.length:=by omega
     have aD:=hR.ok _ (kG ad am);have hok:=rowO_ok (own:=own) aD hT ad am;have U:res=match rowO own (jW rs p) B p with
       | .go B' p'=>runS rs own gs (300-(n+1)) B' p' (n+1)
       | .stop e=>⟨B,p,if QS e=v_ then n else n+1,gs,e⟩:=by
      rw [<-Z,show 300-n=(300-(n+1))+1 by omega,runS,A2 c']
     exists 0,x,dx,fs,1,e,f.meth _ ()
     exists 0,x,_,dx,fs,0,e,T.qv,T.y7,f.rows,0,x,_,dx,fs,0,e,T.qv,T.Qm,f.place,_,0,1;have aK:atI (rs.map rowD) (p-1)=u_ (rowD (jW rs p)):=by
      rw [show p-1=((p.toNat-1:Nat):Int) by omega]
      exact Qc (by rw [uI,row_at ad am];rfl)
     refine xJ (d:=rowD (jW rs p)) ir aK λq hq=> ?_
     exists 5
     refine⟨⟨x,db,dg,rs,own⟩,⟨B,p,n,gs,.non⟩,jW rs p,q,rs.length,1,M,1,hT,ho,aD,hq,λH2 m2 M2=> ?_⟩;have aL:=M2;erw[aL,af,ac,aO,aP,aQ,aR,e2,f2,ao,ap,ah,aq,au,ag];simp only at e2 f2 ao ap ah aq au ag;have ak:ac.length<1000:=by have:=f2.len;omega
     have ae:=mv.trans m2;generalize hO:rowO own (jW rs p) B p=O at hok U M2 ag ah f2;cases O with
     |go B' p'=>
      erw[hok,q1,q2,q3]
      exists 0,x,af,ac,1,e2,f2.meth _ (),_,0,M2,.inl rfl,0
      refine QK rfl ?_
      exists 0,x,_,af,ac,0,e2,T.qv,T.yd,f2.done,(n:Int),(1),1,1,af,ac,e2,ak;erw[yj (m:=⟨x,db,dg,rs,own⟩) (r:=⟨B',p',n+1,gs,.non⟩) e2 (f2.set_done (k:=n+1)) ao ap ah aq au ag,m3,m4];exact⟨B',p',n+1,.non,1,m3,ae.trans m4,q1,q2,q3,(),.inl [1:U.symm:()]⟩
     |stop d=>
      erw[hok,u,d2,rfl]
      exists 0,x,af,ac,1,e2,f2.meth _ (),_,0,M2,.inr [_:0],0
      cases hw:QS (.tup [.str u,d2]) with
      |true=>
       simp![hw] at U;refine Qq (by show(!QS (.tup [.str u,d2]))=V9;rw [hw];rfl) ?_
       exact⟨B,p,n,0,M2,ae,hT,ad,al,hn,.inr [[_:0]:U.symm]⟩
      |false=>
       simp![hw] at U;refine QK (by show(!QS (.tup [.str u,d2]))=v_;rw [hw];rfl) ?_
       exists 0,x,_,af,ac,0,e2,T.qv,T.yd,f2.done,(n:Int),(1),1,1,af,ac,e2,ak;erw[yj (m:=⟨x,db,dg,rs,own⟩) (r:=⟨B,p,n+1,gs,.tup [.str u,d2]⟩) e2 (f2.set_done (k:=n+1)) ao ap ah aq au ag,m3,m4];exact⟨B,p,n+1,0,m3,ae.trans m4,hT,ad,al,(),.inr [[_:0]:U.symm]⟩
 ·have:tv≠ .non:=by erw[it,_,_,h,_];rw [h];exact λz=>by cases z
  refine Qq (uh this) ?_;refine k H' mv ?_;rw [<-Z];exact M
def emp (z:Str):D:= .tup [.str z,.str ""]
theorem prs_of {H:Hp}:∀{zs:oj Str}{ys:oj V},L2.IsL H (zs.map emp) ys->∃ts:oj o3,ys=ts.map V.ref/\ts.length=zs.length/\∀(i:Nat) (t:o3) (z:Str),ts[i]? =u_ t->zs[i]? =u_ z->H t=u_ (.tup [.str z,.str ""])
 | [],_,h=>by
  cases(show _= [] from h)
  exact⟨[],1,1,λi t z h=>by simp at h⟩
 |y::zs,_,h=>by
  erw[h,v,r,rfl,[t,us,rfl,O,v1,u1,rfl,[rfl,_],v2,U,rfl,[rfl,_],Z],h2];cases(show U= [] from Z)
  erw[prs_of h2,ts,rfl,hl,hi];refine⟨t::ts,1,by rw [um,hl];rfl,λi q z h1 h3=> ?_⟩
  cases i with
  |zero=>
   cases h1;cases h3;exact O
  |succ j=>exact hi j q z (by simpa using h1) (by simpa using h3)
variable {ys:oj V}
theorem prs_box {A:o3}(e:H A=u_ (.lst ys))(h:L2.IsL H (BX.map emp) ys):PairsL H A (BX.map λz=>(z,V.str "")):=by
 erw[prs_of h,ts,rfl,U,hi];refine⟨ts,e,by rw [U,uc],λi t p h1 h2=> ?_⟩
 rw [uI] at h2;cases O:BX[i]? with
 |none=>rw [O] at h2;cases h2
 |some z=>
  rw [O] at h2;cases h2;exact hi i t z h1 O
def B0:Str->D:=λ_=> .str ""
variable {q:o3}
theorem box_new (O:H q=U_):Ym (upd H q (.dK (inrK (BX.map λz=>(z,V.str ""))))) q B0:=by
 refine[λ_=> .str "":?_:λz _=>[1:yD ()]]
 rw [qg];unfold inrK kvB;rw [uL]
 rfl
theorem B0_tr:Tr B0:=λ_ _=>(by decide+kernel:isT (.str "")=v_)
theorem bx_nodup:((BX.map λz=>(z,V.str "")).map (·.1)).Nodup:=by
 rw [uL];show(BX.map id).Nodup;rw [Hr]
 decide+kernel
theorem putF_le (f:Str)(v:V):∀fs:oj (Str×V),(putF f v fs).length<=fs.length+1
 | []=>uj _
 |(g,x)::r=>by
  unfold putF;by_cases c:g=f
  ·rw [Aa c];simp
  ·rw [A2 c];have:=putF_le f v r;simp![um];omega
def FLD:oj Str:= ["rows","rule","own","boxes","place","done","given","there"]
theorem mth_fld:∀m∈MTH,m∉FLD:=by decide+kernel
variable {v:V}
theorem fl_new {db dg:o3}(O:(putF "there" .non (putF "given" (.ref dg) (putF "done" (.int 0) (putF "place" (.int 1) (putF "boxes" (.ref db) (putF "own" (.str own) (putF "rule" v (putF "rows" rv [])))))))).length<=20):
  Fl (putF "there" .non (putF "given" (.ref dg) (putF "done" (.int 0) (putF "place" (.int 1) (putF "boxes" (.ref db) (putF "own" (.str own) (putF "rule" v (putF "rows" rv [])))))))) rv v own db dg 1 0 .non:=by
 refine⟨?_,?_,?_,?_,?_,?_,?_,?_,λm hm=> ?_,O⟩
 ·iterate 7 rw [qH,A2 ()]
  rw [qH,Aa rfl]
 ·iterate 6 rw [qH,A2 ()]
  rw [qH,Aa rfl]
 ·iterate 5 rw [qH,A2 ()]
  rw [qH,Aa rfl]
 ·iterate 4 rw [qH,A2 ()]
  rw [qH,Aa rfl]
 ·iterate 3 rw [qH,A2 ()]
  rw [qH,Aa rfl]
 ·iterate 2 rw [qH,A2 ()]
  rw [qH,Aa rfl]
  rfl
 ·rw [qH,A2 (),qH,Aa rfl]
 ·rw [qH,Aa rfl]
 ·have h:=mth_fld m hm
  iterate 8 rw [qH,A2 (λe=>h (by rw [e];decide+kernel))]
  rfl
structure Ini (n:Nat)(H:Hp)(C x dx:o3)(fs:oj (Str×V))(H':Hp):Prop where
 len:fs.length<=n
 at':H' x=u_ (.ins C dx fs)
 kept:∀b o,H b=u_ o->b≠x->H' b=u_ o
theorem Ini.put {x:o3}{fs:oj (Str×V)}(I:Ini n H C x dx fs H')(f:Str)(v:V):Ini (n+1) H C x dx (putF f v fs) (upd H' x (.ins C dx (putF f v fs)))/\Tk H' (upd H' x (.ins C dx (putF f v fs))):=
 ⟨⟨uM (putF_le f v fs) (Ry I.len),qg,λb o h n=>by rw [qh n];exact I.kept b o h n⟩,Tk.updI I.at'⟩
theorem Ini.same {x:o3}{fs:oj (Str×V)}(I:Ini n H C x dx fs H')(s:Same H' H2):Ini n H C x dx fs H2:=[I.len:s _ _ I.at':λb o h n=>s _ _ (I.kept b o h n)]
theorem lc_box {K:o0}{b A:o3}{H1:Hp}{te:TE}{tl:L2.St}{Q:VK}(O:∀H,SqT K H b (BX.map V.str))(hA:H1 A=U_)
  (U:∀(z:Str) H (R:VK),z.length<=Vb->Same H1 H->(∀y H',Same H H'->Is H' (emp z) y->R y H')->te (u_ (.str z)::tl) H R)
  (hQ:∀H' ys,Same H1 H'->H' A=u_ (.lst ys)->L2.IsL H' (BX.map emp) ys->Q (.ref A) H'):lcGo A (Itt K b) (Jv 0) tYes te (U_::tl) H1 Q:=by
 have hl:∀H,L2.IsL H (BX.map D.str) (BX.map V.str):=λH=>IsL.ofStrs λz Z=>yD (by rw [(box_ok Z).1];decide)
 refine lc_data (ds:=BX.map D.str) (λd=>match d with| .str z=>emp z|d=>d) (yD ()) hA (λi H sm hi=>⟨BX.map V.str,(BX.map V.str)[i]'(by simpa using hi),O H,ur _⟩) (λi H x H' d sm hd y=> ?_) (λH sm=>⟨BX.map V.str,O H,by simp⟩) (λd x H R hd sm hx r=> ?_) (λH' ys sm e h=>hQ H' ys sm e ?_)
 ·erw[y,rfl,y];erw[(hl H').get hd,v,e1,e2];have:=y _ (O H');rw [e1] at this;cases this;exact[1:e2]
 ·erw[Ag.mp hd,z,_,rfl];erw[hx,rfl,Z];exact U z H R Z sm r
 ·rwa [uL] at h
theorem isNm_str:∀{d:D},isNm d=v_->∃own,d= .str own/\nm own=v_/\own.length<=100
 | .str z,h=>⟨z,1,h,by
  rcases UN 24 z.length with h1|h1
  ·rw [show isNm (.str z)=nm z from rfl,nm_len (λq=>by omega)] at h
   cases h
  ·omega⟩
theorem back_rows {n:Nat}:∀{ds:oj D},ds.all (λd=>(Qo n d).isSome)=v_->((ds.filterMap (Qo n)).map λr=>D.str (Ya r))=ds/\(ds.filterMap (Qo n)).length=ds.length/\∀r∈ds.filterMap (Qo n),jS n 300 r
 | [],_=>⟨1,1,λr h=>by simp at h⟩
 |d::ds,h=>by
  rw [vy,uw] at h;erw[XF h.1,r,O];erw[back_rows h.2,Z,i2,i3];cases d with
  |str z=>
   obtain⟨h1,h2⟩:=rowOf_ok (show ZG n z=u_ r from O)
   rw [Ud O];refine⟨by rw [ui,h2,Z],by rw [um,um,i2],λx U=> ?_⟩
   rcases Ac.mp U with rfl|U
   ·exact h1
   ·exact i3 x U
  |_=>cases O
theorem readD_ok:∀{d:D}{rs:oj Rw},Q7 d=u_ rs->ya rs/\d=xk rs
 | .tup ds,rs,h=>by
  rw [Xz] at h;split at h
  ·rename_i O
   cases h;simp![uw,vj] at O;erw[O,[[h1,h2],h3],h4];erw[back_rows h3,U,Z,i3];have e:xk (ds.filterMap (Qo ds.length))= .tup ds:=congrArg D.tup U;exact⟨⟨(),(),λr hr=>by rw [Z];exact i3 r hr,by rwa [e]⟩,e.symm⟩
  ·cases h
inductive sp_minit (C br bn:Addr) (vs:List V) (H:Hp) (Q:VK) (E:XK):Prop
 |mk (x dx:Addr) (v ov:V) (d od:D) (_:vs= [.ref x,v,ov]) (_:H x=u_ (.ins C dx [])) (_:Is H d v) (_:Is H od ov) (_:(Q7 d=U_->∀(e:Addr) (H':Hp),(∀b o,H b=u_ o->b≠x->H' b=u_ o)->E (.ref e) (u_ br) H')) (_:(Q7 d≠U_->isNm od=V9->∀(e:Addr) (H':Hp),(∀b o,H b=u_ o->b≠x->H' b=u_ o)->E (.ref e) (u_ bn) H')) (_:(∀(rs:List Rw) (own:Str),d=xk rs->ya rs->od= .str own->nm own=v_->own.length<=100->∀(H':Hp) (db dg:Addr),(∀b o,H b=u_ o->b≠x->H' b=u_ o)->H db=U_->H dg=U_->Yc C H' ⟨x,db,dg,rs,own⟩ (runS rs own [] 300 B0 1 0)->Q .non H'))
theorem ok_minit (T:Tx K mg a)(C:Fx K w mg g a):FnOk P w K mg base (CX1 P w) 6 a.Y1 a.xf ["self","rule","own"] (sp_minit a.qo g.br g.bn):=by
 have Q1:=#[X3,T];have O:=#[ok_rows,T,C];have Yy:=#[ok_goon,T,C];refine T.g_Machine_init.F.okX Z3 () (λ_ _ _ _ H _ Q E hr h=> ?_)
 erw[h,x,dx,v,ov,d,od,rfl,hx,hv,ho,kR,kN,k];exists 3,%[#[Qg,#[qt,16,O,hr.mono (),_,T.g_rule_rows.m,T.g_rule_rows.F.kp,T.g_rule_rows.b,.nil,pass1,#v[pv 1],_,_,_]],#[qL,#[QE,#[Qr,#[qt,Q1,hr.mono (),T.g_is_name,#v[pv 2]]]],%[|#[ps_raise,22,C.x_BadName,_,C.m_BadName,qk,_,_]],qx],#[Qg,pv 1],#[Qg,pv 2],#[Qg,#[qK,#[WX,1,rfl],T.z_dict,HP,#v[#[Zm,["box"],[],lcs0,#[KC,4,#[pe_gR,C.m_BOXES]],(λ_ _ _ _ _ _=>#[qZ,(0),(show Vz (["box"]:oj Str) by decide+kernel)]),(λ_ _ _ _ _ _=>#[qE,#v[pv 0,qk]])]]]],#[Qg,qi],#[Qg,qi],#[Qg,#[Qw,qc]],#[Qg,qW]|#[qY,#[yg,pv 0,T.qv,T.g_Machine_go_on,Yy]]]
 exists 5
 refine⟨0,v,d,1,hv,λrs al rv H1 s1 ir=> ?_,λhn e H1 s1=>kR hn e H1 λb o h _=>s1 b o h⟩
 exists 0,x,_,dx,[],1,s1 _ _ hx,T.qv,T.y7,()
 have I0:Ini 0 H a.qo x dx [] H1:=[uj _:s1 _ _ hx:λb o h _=>s1 _ _ h];erw[I0.put "rows" rv,I1,t1];have aA:=ir.mono t1;have htk:∀{n:Nat}{fs:oj (Str×V)}{H':Hp},Ini n H a.qo x dx fs H'->Tk H H':=λ{n fs H'} I=>⟨λb xs e=>I.kept b _ e (λz=>by rw [z,hx] at e;cases e),λb xs e=>⟨_,I.kept b _ e (λz=>by rw [z,hx] at e;cases e)⟩,λb xs e=>⟨_,I.kept b _ e (λz=>by rw [z,hx] at e;cases e)⟩⟩
 exists 5
 refine⟨0,ov,od,1,ho.mono (htk I1),λH3 s3=>[0:?_]⟩;have I3:=I1.same s3;cases ac:isNm od with
 |false=>exact iteT ⟨1,λe=>kN (by rw [al];simp) ac e H3 I3.kept⟩
 |true=>
 refine iteF ?_;erw[readD_ok al,hR,rfl];erw[isNm_str ac,own,rfl,ac,am];cases(show ov= .str own from ho.1)
 have n1:=hR.n1;have k:=k rs own rfl hR rfl ac am;have aB:=aA.mono s3.tk
 exists 5
 refine⟨0,0,x,_,dx,0,I3.at',T.qv,T.Wk,by have:=I3.len;omega,?_⟩
 erw[I3.put "rule" v,I4,t4];have aC:=aB.mono t4
 exists 5
 refine⟨0,0,x,_,dx,0,I4.at',T.qv,T.XN,by have:=I4.len;omega,?_⟩
 erw[I4.put "own" (.str own),I5,t5];have aD:=aC.mono t5
 exists 5
 refine⟨g.boxes,0,C.boxes _,λaO A0 aE=> ?_⟩;refine lc_box (tl:= []) C.boxes aE (λz H6 R hz s6 r=>[0:(sml rfl):λl hl=>r _ _ (qf hl _) (Is.new (ds:= [.str z,.str ""]) ⟨_,0,[1:hz],_,0,[1:yD ()],1⟩ hl)]) λH6 ys s6 e6 i6=> ?_
 exists 5
 refine⟨A0,0,prs_box e6 i6,bx_nodup,(),λdb Z=> ?_⟩
 have I6:=I5.same s6;have s7:Same H6 (upd H6 db (.dK (inrK (BX.map λz=>(z,V.str ""))))):=qf Z _;have I7:=I6.same s7;have b7:=box_new Z;have aF:=(aD.mono s6.tk).mono s7.tk;have nx:∀b o,H b=u_ o->b≠x->b≠db:=λb o h n=>ql (I6.kept b o h n) Z;have U:x≠db:=ql I6.at' Z
 exists 5
 refine⟨0,x,_,dx,0,I7.at',T.qv,T.Qv,by have:=I7.len;omega,?_⟩
 erw[I7.put "boxes" (.ref db),I8,t8];have b8:=b7.move t8 (qh U.symm);have aG:=aF.mono t8
 exists 5
 refine⟨0,x,_,dx,0,I8.at',T.qv,T.Qm,by have:=I8.len;omega,?_⟩
 erw[I8.put "place" (.int 1),I9,t9];have b9:=b8.move t9 (qh U.symm);have aH:=aG.mono t9
 exists 5
 refine⟨0,x,_,dx,0,I9.at',T.qv,T.yd,by have:=I9.len;omega,?_⟩
 erw[I9.put "done" (.int 0),ad,ao];have aI:=b9.move ao (qh U.symm);have ap:=aH.mono ao
 exists 5
 refine[(sml rfl):λdg ae=> ?_];have af:=qf ae (.lst []);have ag:=ad.same af;have aJ:=aI.same af;have aq:=ap.mono af.tk;have ah:dg≠x:=(ql ad.at' ae).symm
 exists 5
 refine⟨0,x,_,dx,0,ag.at',T.qv,T.Yz,by have:=ag.len;omega,?_⟩
 erw[ag.put "given" (.ref dg),ak,au];have aK:=aJ.move au (qh U.symm);have aw:=aq.mono au
 exists 5
 refine⟨0,x,_,dx,0,ak.at',T.qv,T.qN,by have:=ak.len;omega,?_⟩
 erw[ak.put "there" .non,aa,ax];have aL:=aK.move ax (qh U.symm);have ay:=aw.mono ax;have hl:=aa.len
 exists 0,x,dx,0,aa.at',(fl_new ()).meth _ ()
 have aM:Is _ (xk rs) v:=hv.mono (htk aa);have frs:∀{b:o3}{H2:Hp},(∀c o,H c=u_ o->c≠x->H2 c=u_ o)->H2 b=U_->b≠x->H b=none:=λ{b H2} k1 h1 n1=>by
  cases hc:H b with
  |none=>rfl
  |some o=>rw [k1 b o hc n1] at h1;cases h1
 have aN:∀b o,H b=u_ o->b≠x->b≠dg:=λb o h n=>ql (ad.kept b o h n) ae
 exists 5
 refine⟨⟨x,db,dg,rs,own⟩,⟨B0,(1),(0),[],.non⟩,1,⟨dx,_,rv,v,.non,[],aa.at',fl_new (),ay,aM,aL,?_,1,1⟩,1,B0_tr,am,hR,Int.le_refl 1,by show(1:Int)<=(rs.length:Int)+1;omega,vf _,λH' m M=>k H' db dg (λb o h n=>m.kept b o (aa.kept b o h n) n (nx b o h n) (aN b o h n)) (frs I6.kept Z U.symm) (frs ad.kept ae ah) M⟩
 rw [qh ah,qh ah,qg]
def jT (z:Str):Bool:=z.cps.toList.all QD
theorem okAll_app {y:Str}(h:jT z=v_)(k:jT y=v_):jT (z++y)=true:=by
 unfold jT at*;show(z.cps++y.cps).toList.all QD=v_;rw [tE,UT,h,k];rfl
mutual
def lw:D->Bool
 | .str z=>jT z
 | .tup xs=>lwL xs
 |_=>V9
def lwL:oj D->Bool
 | []=>v_
 |x::r=>lw x&&lwL r
end
theorem len_cps (z:Str):z.length=z.cps.toList.length:=by show z.cps.size=_;simp
theorem isT_short (h:jT z=v_)(O:z.length<=300):isT (.str z)=true:=by
 have U:Qy z=true:=by
  unfold Qy;rwa [uf O,Tv]
 have Z:sz (.str z)<=600:=by simp![sz];omega
 have e2:dp (.str z)<=12:=by simp![dp];omega
 have e3:good (.str z)=true:=by simp![good];exact U
 unfold isT;rw [e3,uf Z,uf e2]
 rfl
def isP:D->Bool
 | .tup xs=>decide (xs.length=2)
 |_=>V9
def Km:D->Bool
 | .tup [k,d]=>if eqD k (.str "made")=v_ then isNm d else(eqD k (.str "leaf")||eqD k (.str "rule"))&&isT d
 |_=>V9
def okS:D->Bool
 | .tup [k,_]=>okHd k&&decide (dp k<=60)
 |_=>v_
inductive sp_pair (vs:List V) (H:Hp) (Q:VK) (E_:XK):Prop
 |mk (v:_) (d:_) (_:vs= [v]) (_:Is H d v) (_:Q (.bl (isP d)) H)
inductive sp_source (vs:List V) (H:Hp) (Q:VK) (E_:XK):Prop
 |mk (v:_) (d:_) (_:vs= [v]) (_:Is H d v) (_:okS d=v_) (_:∀H',Same H H'->Q (.bl (Km d)) H')
inductive sp_cell (K:PySem.W.Frag) (vs:List V) (H:Hp) (Q:VK) (E_:XK):Prop
 |mk (q:Addr) (ns:List Int) (k:Int) (_:vs= [.ref q,.int k]) (_:0<=k) (_:SqL K H q (ns.map V.int)) (_:∀i:Int,Q (.int i) H)
theorem iteB {b:Bool}{A B:Prop}(O:b=v_)(h:A):if b=v_ then A else B:=by rw [Aa O];exact h
theorem iteN {b:Bool}{A B:Prop}(O:b=V9)(h:B):if b=v_ then A else B:=by rw [A2 (by rw [O];exact u5)];exact h
theorem ok_pair (T:Tx K mg a):#[K,1,a.f_is_pair,a.d_is_pair,["value"],sp_pair]:=by
 exists 9,T.g_is_pair,sc_is_pair
 erw[h,v,d,rfl,U,k];exists 3,%[|#[qr,#[pe_and,7,#[qz,#[Qa,2,rfl],T.qU,v9,#v[pv 0,#[Q6,.ty "tuple",T.Qk,vc]]],#[pe_one,#[yJ,QF,#[qz,Jw,T.yK,uJ,#v[pv 0]],qi,qB _]]]]]
 exists 0,v,"tuple",tyD d,X1 d,1,U.ty,xQ d,0;cases Z:X1 d with
 |false=>
  refine iteF ?_;have e:isP d=false:=by cases d<;>first|rfl|simp [X1] at Z
  rwa [e] at k
 |true=>
  obtain⟨xs,rfl⟩:∃xs,d= .tup xs:=by cases d<;>simp [X1] at Z;exact⟨0⟩
  erw[U,p,us,rfl,hp,O];have lu:=O.length;refine iteT [0:.inr ⟨p,us,1,.inr (SqT.of hp),λ_=>[1:?_]⟩];have e:decide (V.int (us.length:Int)=V.int 2)=isP (.tup xs):=by
   simp![isP,uZ];constructor
   ·intro h;have:=V.int.inj h;omega
   ·intro h;rw [lu,h]
    rfl
  rwa [<-e] at k
theorem ok_source (T:Tx K mg a):#[K,3,a.wJ,a.wO,["value"],sp_source]:=by
 have O:=#[ok_pair,T];have Q1:=#[X3,T];have yB:=#[jh,T];exists 9,T.g_is_source,sc_is_source,Z
 erw[h,v,d,rfl,hv,hok,k];exists 3,%[#[qL,#[QE,#[Qr,#[qt,O,Z.mono (),T.g_is_pair,#v[pv 0]]]],%[|#[qr,Jh]],qx],#[qL,#[qp,#[op_eqM,1,Z.units],#[qJ,qI,pv 0,qi],qk,qB _],%[|#[qr,#[qt,Q1,Z.mono (),T.g_is_name,#v[#[qJ,qI,pv 0,qi]]]]],qx]|#[qr,#[pe_and,7,#[yJ,#[op_inM,1,Z.units],#[qJ,qI,pv 0,qi],#[qE,#v[qk,qk]],#[w]],#[pe_one,#[qt,yB,Z.mono (),T.g_is_tree,#v[#[qJ,qI,pv 0,qi]]]]]]]
 exists 0,v,0,hv,0;cases hP:isP d with
 |false=>
  refine iteT ?_;have e:Km d=false:=by
   cases d with
   |tup xs=>
    match xs,hP with
    | [],_=>rfl
    | [_],_=>rfl
    | [_,_],h=>simp [isP] at h
    |_::_::_::_,_=>rfl
   |_=>rfl
  have:=k H (Same.refl _);rwa [e] at this
 |true=>
  refine iteF ?_;obtain⟨z,e,rfl⟩:∃z e,d= .tup [z,e]:=by
   cases d with
   |tup xs=>
    match xs,hP with
    | [],h=>simp [isP] at h
    | [_],h=>simp [isP] at h
    | [x,y],_=>exact[x:y:1]
    |_::_::_::_,h=>simp [isP] at h
   |_=>simp [isP] at hP
  erw[id hv,p,us,rfl,hp,x1,r1,rfl,h1,x2,r2,rfl,h2,h3];cases(show r2= [] from h3)
  have U:okHd z=v_/\dp z<=60:=by simpa [okS] using hok
  exists 0,p,_,_,0,1,SqT.of hp,1,z,"made",h1,1,(),U.1,U.2,0
  cases c:eqD z (.str "made") with
  |true=>
   refine iteT ⟨0,p,_,_,0,1,SqT.of hp,1,x2,e,1,h2,λH' s'=> ?_⟩;have:=k H' s';simp![Km,c,if_true] at this;exact this
  |false=>
   refine iteF ⟨0,p,_,_,0,1,SqT.of hp,1,(sml rfl),λq hq=> ?_⟩;have s1:Same H (upd H q (.tup [.str "leaf",.str "rule"])):=qf hq _
   exists z,q,["leaf","rule"],h1.mono s1.tk,1,.inr (SqT.of qg),(),U.1,U.2,0
   have e2:(["leaf","rule"]:oj Str).any (λy=>eqD z (.str y))=(eqD z (.str "leaf")||eqD z (.str "rule")):=by simp
   rw [e2];cases c2:(eqD z (.str "leaf")||eqD z (.str "rule")) with
   |true=>
    refine iteT ⟨0,p,_,_,0,1,SqT.of (s1 _ _ hp),1,x2,e,1,h2.mono s1.tk,λH' s'=> ?_⟩;have:=k H' (s1.trans s');simp![Km,c,c2,Tv,UR,if_false] at this;exact this
   |false=>
    refine iteF ?_;have:=k _ s1;simp![Km,c,c2,rG,UR,if_false] at this;exact this
theorem ok_cell (T:Tx K mg a):#[K,1,a.XE,a.XV,["script","k"],(sp_cell K)]:=by
 exists 9,T.g_law_cell_at,Ws
 erw[h,q,ns,j,rfl,h0,O,k];exists 3,%[#[qL,#[qp,op_lt,pv 1,#[qz,qP,T.yK,uJ,#v[pv 0]],qB _],%[|#[qr,#[qJ,QO,pv 0,pv 1]]],qx]|#[qr,qi]]
 exists 0,0,q,0,.inl O,_,0,1,0;refine ite2 (λc=> ?_) (λc=> ?_)
 ·have Z:j<((ns.map V.int).length:Int):=uA c;erw[jD h0 Z,v,U];erw[Ag.mp (xD U),i,_,rfl];exact⟨0,0,q,_,_,0,1,O,U,k _⟩
 ·exact k 0
theorem str_ext {y:Str}(h:z.cps.toList=y.cps.toList):z=y:=by
 cases z;cases y;simp at h;rw [h]
def okN (z:Str):Bool:=(z.cps.toList.map λc=>inS ⟨#[c]⟩ NSG).all id
theorem w9 (h:nm z=v_):1<=z.length/\z.length<=24:=by
 by_cases c:1<=(z.length:Int)/\(z.length:Int)<=24
 ·omega
 ·rw [nm_len c] at h;cases h
def Nms (zs:oj Str):Prop:=(∀z∈zs,nm z=v_)/\zs.Nodup
def Zq (d:D):Prop:=(∃k e,d= .tup [.str k,e])/\Km d=v_/\lw d=v_/\sz d<=306
def prD (p:Str×D):D:= .tup [.str p.1,p.2]
def PrOk (ps:oj (Str×D)):Prop:=Nms (ps.map (·.1))/\∀p∈ps,Zq p.2
theorem okN_all (h:okN z=v_):jT z=true:=by
 unfold jT;rw [U4];intro c U;have:=List.all_eq_true.mp h _ (Ag.mpr [c:U:1]);rw [id,inS_one] at this;have O:∀c∈NSG.cps.toList,QD c=true:=by decide+kernel
 exact O c (uA this)
theorem nm_okN (h:nm z=v_):okN z=true:=by
 have O:=w9 h;cases h3:inS ⟨#[z.cps.getD 0 0]⟩ LET with
 |false=>rw [nm_first h3] at h;cases h
 |true=>
  rw [nm_rest () () h3] at h
  exact h
theorem src_made (h:nm z=v_):Zq (.tup [.str "made",.str z]):=by
 have O:=w9 h;refine⟨[_:0],?_,?_,by simp![sz,szL];show 1+(("made":Str).length+1+(z.length+1+0))<=306;have:("made":Str).length=4:=rfl;omega⟩
 ·show(if eqD (.str "made") (.str "made")=v_ then nm z else(eqD (.str "made") (.str "leaf")||eqD (.str "made") (.str "rule"))&&isT (.str z))=v_
  rw [Aa ()]
  exact h
 ·have:jT "made"=true:=by decide+kernel
  simp![lw,lwL,this,okN_all (nm_okN h)]
  rfl
theorem src_leaf {k:Str}{d:D}(O:k="leaf"∨k="rule")(h:isT d=v_)(U:lw d=v_)(hz:sz d<=300):Zq (.tup [.str k,d]):=by
 have Z:k.length=4:=by rcases O with rfl|rfl<;>rfl
 refine⟨[_:0],?_,?_,by simp![sz,szL];omega⟩
 ·show(if eqD (.str k) (.str "made")=v_ then isNm d else(eqD (.str k) (.str "leaf")||eqD (.str k) (.str "rule"))&&isT d)=v_
  have e1:eqD (.str k) (.str "made")=false:=by rcases O with rfl|rfl<;>decide+kernel
  have e2:(eqD (.str k) (.str "leaf")||eqD (.str k) (.str "rule"))=true:=by rcases O with rfl|rfl<;>decide+kernel
  rw [e1,e2,h]
  rfl
 ·have:jT k=true:=by
   rcases O with rfl|rfl<;>decide+kernel
  simp![lw,lwL,this,U]
  rfl
theorem src_okS {d:D}(h:Zq d):okS d=true:=by
 erw[h,[k,e,rfl],_];simp [okS,okHd,trD,dp]
theorem src_dp {d:D}(h:Zq d):dp d<=13:=by
 erw[h,[k,e,rfl],h1,h2,_];have U:dp e<=12:=by
  have O:(if eqD (.str k) (.str "made")=v_ then isNm e else(eqD (.str k) (.str "leaf")||eqD (.str k) (.str "rule"))&&isT e)=true:=h1
  split at O
  ·cases e<;>simp [isNm] at O<;>simp [dp]
  ·rw [uw] at O;exact J0 O.2
 simp![dp,dpL];omega
theorem yl (h:z.length<=16000000):Is H (.str z) (.str z):=[1:fits h]
theorem ge_trans:∀a b c:oj Nat,VD b a=V9->VD c b=V9->VD c a=V9
 | [],_,[],_,_=>rfl
 | [],_,_::_,_,_=>rfl
 |x::a,[],_,h,_=>by simp [VD] at h
 |x::a,y::b,[],_,h=>by simp [VD] at h
 |x::a,y::b,z::c,h1,h2=>by
  simp![VD,tm,Ro,decide_eq_false_iff_not,UK,ne_eq] at*;exists ()
  by_cases e:z=x
  ·refine .inr (ge_trans a b c ?_ ?_)
   ·rcases h1.2 with h|h
    ·omega
    ·exact h
   ·rcases h2.2 with h|h
    ·omega
    ·exact h
  ·exact .inl e
theorem ge_anti:∀a b:oj Nat,VD a b=V9->VD b a=V9->a=b
 | [],[],_,_=>rfl
 | [],_::_,h,_=>by simp [VD] at h
 |_::_,[],_,h=>by simp [VD] at h
 |x::a,y::b,h1,h2=>by
  simp![VD,tm,Ro,decide_eq_false_iff_not,UK,ne_eq] at*;have e:x=y:=by omega
  subst e;rw [ge_anti a b (by rcases h1.2 with h|h;exact absurd rfl h;exact h) (by rcases h2.2 with h|h;exact absurd rfl h;exact h)]
theorem rising_pw:∀(l:oj Str) (p:Str),risingS p l=v_->(p::l).Pairwise (λa b=>VD b.cps.toList a.cps.toList=V9)
 | [],p,_=>List.pairwise_singleton ..
 |x::r,p,h=>by
  have h':(!VD x.cps.toList p.cps.toList&&risingS x r)=true:=h;rw [uw,FW] at h';have U:=rising_pw r x h'.2;refine List.pairwise_cons.mpr [λb O=> ?_:U];rcases Ac.mp O with rfl|O
  ·exact h'.1
  ·exact ge_trans _ _ _ h'.1 (List.rel_of_pairwise_cons U O)
variable {l:oj Str}
theorem sorted_pw (h:GB l=v_):l.Pairwise (λa b=>VD b.cps.toList a.cps.toList=V9):=by
 cases l with
 |nil=>exact tI
 |cons x r=>exact rising_pw r x h
theorem sorted_one {m:oj Str}(h1:GB l=v_)(h2:GB m=v_)(h:l.Perm m):l=m:=
 pP (λa b _ _ x y=>str_ext (ge_anti _ _ y x)) (sorted_pw h1) (sorted_pw h2) h
def qy (ps:oj (Str×D))(z:Str):D:=((ps.find? λp=>decide (p.1=z)).map (·.2)).getD .non
def zE (vs:oj (Str×V))(z:Str):V:=(valV (inrK vs) (Vc z)).getD .non
theorem Xw (p:Str×V)(r:oj (Str×V)):inrK (p::r)=(Vc p.1,p.2)::inrK r:=rfl
theorem look2 {H:Hp}{z:Str}:∀{ps:oj (Str×D)}{vs:oj (Str×V)},vs.map (·.1)=ps.map (·.1)->IsL H (ps.map (·.2)) (vs.map (·.2))->z∈ps.map (·.1)->valV (inrK vs) (Vc z)=u_ (zE vs z)/\Is H (qy ps z) (zE vs z)
 | [],_,_,_,h=>nomatch h
 |p::ps,[],e,_,_=>by simp at e
 |p::ps,v::vs,e,hi,hz=>by
  simp![ui,vx] at e;erw[hi,u,r,e2,h1,h2];simp![ui,vx] at e2;erw[e2,rfl,rfl];by_cases c:p.1=z
  ·have O:v.1=z:=e.1.trans c;have U:valV (inrK (v::vs)) (Vc z)=u_ v.2:=by
    rw [Xw];exact QM (by rw [O])
   have Z:qy (p::ps) z=p.2:=by simp [qy,v7,c]
   unfold zE;rw [U,Z];exact[1:h1]
  ·have O:¬v.1=z:=λq=>c (e.1.symm.trans q);have U:valV (inrK (v::vs)) (Vc z)=valV (inrK vs) (Vc z):=by
    rw [Xw];exact QG (λq=>O (Uu q))
   have Z:qy (p::ps) z=qy ps z:=by simp [qy,v7,c]
   have aa:z∈ps.map (·.1):=by
    rcases Ac.mp hz with h|h
    ·exact absurd h.symm c
    ·exact h
   have ih:=look2 e.2 h2 aa;unfold zE at*;rw [U,Z];exact ih
theorem look0 {z:Str}:∀{vs:oj (Str×V)},z∉vs.map (·.1)->valV (inrK vs) (Vc z)=U_
 | [],_=>rfl
 |v::vs,h=>by
  rw [Xw,QG (λq=>h (by rw [<-Uu q];exact ug ..))]
  exact look0 λm=>h (ud _ m)
theorem re_map:∀{ps:oj (Str×D)},(ps.map (·.1)).Nodup->(ps.map (·.1)).map (λz=>(z,qy ps z))=ps
 | [],_=>rfl
 |p::ps,h=>by
  have h':=List.nodup_cons.mp h;have O:qy (p::ps) p.1=p.2:=by simp [qy,v7]
  rw [ui,ui,O]
  congr 1
  refine Eq.trans (vO λz U=> ?_) (re_map h'.2);have:¬p.1=z:=λq=>h'.1 (by show p.1∈_;rwa [q])
  simp [qy,v7,this]
def tabOf (ps:oj (Str×D))(ms:oj Str):oj (Str×D):=ms.map λz=>(z,qy ps z)
theorem Kt (ps:oj (Str×D))(O:oj Str):(tabOf ps O).map (·.1)=O:=by
 unfold tabOf;rw [uL];exact(vO λ_ _=>rfl).trans (Hr O)
theorem tab_perm {ps:oj (Str×D)}{O:oj Str}(hn:(ps.map (·.1)).Nodup)(h:O.Perm (ps.map (·.1))):(tabOf ps O).Perm ps:=by
 have:=h.map λz=>(z,qy ps z);rwa [re_map hn] at this
def Q5 (C:o3)(H:Hp)(x:o3)(qs:oj (Str×D)):Prop:=∃(dx d:o3) (o:Obj) (vs:oj (Str×V)),H x=u_ (.ins C dx [("by_name",.ref d)])/\H d=u_ (.frz o (.dK (inrK vs)))/\vs.map (·.1)=qs.map (·.1)/\L2.IsL H (qs.map (·.2)) (vs.map (·.2))
variable {qs:oj (Str×D)}
theorem Q5.same {x:o3}(h:Q5 C H x qs)(s:Same H H'):Q5 C H' x qs:=by
 erw[h,dx,d,o,vs,h1,h2,h3,h4];exact⟨dx,d,o,vs,s _ _ h1,s _ _ h2,h3,h4.mono s.tk⟩
def Qn (qs:oj (Str×D)):Prop:=PrOk qs/\GB (qs.map (·.1))=v_/\qs.length<=60
inductive sp_init (C:Addr) (vs:List V) (H:Hp) (Q:VK) (E_:XK):Prop
 |mk (x dx t:Addr) (ps:List (Str×D)) (us:List V) (_:vs= [.ref x,.ref t]) (_:H x=u_ (.ins C dx [])) (_:H t=u_ (.tup us)) (_:L2.IsL H (ps.map prD) us) (_:PrOk ps) (_:ps.length<=60) (_:∀(qs:List (Str×D)) (H':Hp),(∀b o,H b=u_ o->b≠x->H' b=u_ o)->Q5 C H' x qs->Qn qs->qs.Perm ps->Q .non H')
theorem Nms.perm {m:oj Str}(h:Nms m)(p:l.Perm m):Nms l:=[λz O=>h.1 z (p.mem_iff.mp O):(p.nodup_iff).mpr h.2]
theorem dat_of {ps:oj (Str×D)}{d:D}(hn:(ps.map (·.1)).Nodup)(h:(z,d)∈ps):qy ps z=d:=by
 induction ps with
 |nil=>cases h
 |cons p r Z=>
  have O:=List.nodup_cons.mp hn;rcases Ac.mp h with h|h
  ·subst h;simp [qy,v7]
  ·have:¬p.1=z:=λq=>O.1 (by show p.1∈_;rw [q];exact Ag.mpr [_:h:1])
   have U:=Z O.2 h
   simpa [qy,v7,this] using U
theorem dat_mem {ps:oj (Str×D)}(hn:(ps.map (·.1)).Nodup)(h:z∈ps.map (·.1)):(z,qy ps z)∈ps:=by
 erw[Ag.mp h,p,O,rfl];rw [dat_of hn (show(p.1,p.2)∈ps from O)]
 exact O
theorem dat_perm {ps:oj (Str×D)}(hn:(ps.map (·.1)).Nodup)(O:qs.Perm ps)(h:z∈ps.map (·.1)):qy qs z=qy ps z:=by
 have U:(qs.map (·.1)).Nodup:=((O.map _).nodup_iff).mpr hn;exact dat_of U (O.mem_iff.mpr (dat_mem hn h))
theorem pairs_at {H:Hp}:∀{ps:oj (Str×D)}{us:oj V},L2.IsL H (ps.map prD) us->∃(ts:oj o3) (vs:oj (Str×V)),us=ts.map V.ref/\ts.length=vs.length/\(∀(i:Nat) (t:o3) (p:Str×V),ts[i]? =u_ t->vs[i]? =u_ p->H t=u_ (.tup [.str p.1,p.2]))/\vs.map (·.1)=ps.map (·.1)/\L2.IsL H (ps.map (·.2)) (vs.map (·.2))
 | [],us,h=>⟨[],[],h,1,λi t p h=>by simp at h,1,1⟩
 |p::r,us,h=>by
  erw[h,v,q,rfl,O,h2];erw[O,t,ws,rfl,U,x1,r1,rfl,[rfl,hz],x2,Z,rfl,h4,h5];cases(show Z= [] from h5)
  erw[pairs_at h2,ts,vs,rfl,e1,e2,e3,e4];refine⟨t::ts,(p.1,x2)::vs,1,by simp [e1],λi t' p' h6 h7=> ?_,by simp [e3],⟨_,0,h4,e4⟩⟩
  cases i with
  |zero=>
   cases h6;cases h7;exact U
  |succ i=>exact e2 i t' p' (by simpa using h6) (by simpa using h7)
theorem inrK_snoc (vs:oj (Str×V))(z:Str)(v:V):inrK (vs++ [(z,v)])=inrK vs++ [(Vc z,v)]:=by
 unfold inrK;rw [uu]
 rfl
theorem mapG {α β:Type}(f:α->β){l:oj α}{i:Nat}(h:i<l.length):(l.map f)[i]? =u_ (f l[i]):=by
 rw [uI,ur h]
 rfl
theorem take1 {α:Type}{l:oj α}{i:Nat}(h:i<l.length):l.take (i+1)=l.take i++ [l[i]]:=by
 rw [vV,ur h]
 rfl
theorem ok_init (T:Tx K mg a):#[K,4,a.Y5,a.xc,["self","sources"],(sp_init a.qC)]:=by
 have Q1:=#[X3,T];have U:=#[ok_source,T];refine T.g_Project_init.F.ok yC () (λ_ _ _ _ H vs Q E hr h=> ?_)
 erw[h,x,dx,t,ps,us,rfl,hx,ht,ap,hok,aL,k];have hs:=uF;exists 3,%[#[qD,2,(2),4,yC.nd,rfl,GE rfl,ZA,_,_],#[jf,#[pi_tup,4,pv 1],#[pg_tup,6,rfl,Yp #[qZ,(3),yC.nd] (Yp #[qZ,(4),yC.nd] kK),_,_],%[#[qL,#[QE,#[Qr,#[qt,Q1,hr.mono (),T.g_is_name,#v[pv 3]]]],%[|YQ],qx],#[qL,#[QE,#[Qr,#[qt,U,hr.mono (),T.g_is_source,#v[pv 4]]]],%[|YQ],qx],#[qL,#[pt_cmp,6,#[pc_din,5,QW hr,pv 3,pv 2],_],%[|YQ],qx],#[qL,#[qp,QF,#[qz,call_lenD,T.yK,uJ,#v[pv 2]],#[k8,T.m_MOST_NAMES],qB _],%[|YQ],qx]|#[Js,pv 2,pv 3,pv 4]]]|#[Qg,#[qK,#[call_dictF,1,rfl],T.z_dict,HP,#v[#[Zm,["name","by_name"],[2],lcsN (qj yX) ["self","sources","by_name","name","source"],#[pi_list,4,#[qz,#[call_sortedD,1,rfl],T.z_sorted,boot_sorted,#v[pv 2]]],(λ_ _ _ _ _ _=>#[qZ,(0),(show Vz (["name","by_name"]:oj Str) by decide+kernel)]),(λ_ _ _ _ _ _=>#[qE,#v[pv 0,#[Qz,pv 1,pv 0]]])]]]]]
 intro d hd;have s1:Same H (upd H d (.dK [])):=qf hd _;have aM:d≠x:=λe=>by rw [e,hx] at hd;cases hd
 have aq:=ap.length;rw [uc] at aq
 exists 5
 refine⟨0,t,1,[_:SqT.of (s1 _ _ ht)],KM (K:=K) (a:=t) (xs:=us) (λi σ H'=>∃(vs:oj (Str×V)) (nv sv:om V),σ= [u_ (.ref x),u_ (.ref t),u_ (.ref d),nv,sv]/\Same H H'/\H' d=u_ (.dK (inrK vs))/\vs.map (·.1)=(ps.take i).map (·.1)/\L2.IsL H' ((ps.take i).map (·.2)) (vs.map (·.2)))
  ⟨[],U_,U_,1,s1,qg,1,1⟩ (λi σ H' _ ⟨_,_,_,_,sm,_⟩=>SqT.of (sm _ _ ht)) ?_ ?_⟩
 ·rintro i y σ H' hi ⟨vs,nv,sv,rfl,sm,ac,hk,hv⟩;have aN:i<us.length:=(Ai.mp hi).1;have Z:i<ps.length:=by omega
  erw[ap.get (mapG prD Z),v,e1,e2];rw [hi] at e1;cases e1;have au:=hok.2 _ (vi Z);have aB:nm ps[i].1=true:=hok.1.1 _ (Ag.mpr [_:vi Z:1]);erw[au,[sk,sd,aO],aC,aP];erw[e2,p,ws,rfl,hp,w1,r1,rfl,[rfl,hz],w2,r2,rfl,h2,h3];cases(show r2= [] from h3)
  have aD:=sm _ _ hp
  exists p,0,SqT.of aD,1,_,0,_,0,1
  exists 5
  refine⟨0,_,.str ps[i].1,1,[1:hz],λH3 s3=>⟨0,iteN (by simp [isNm,aB]) ?_⟩⟩
  have aw:Is H3 ps[i].2 w2:=h2.mono (sm.trans s3).tk
  exists 5
  refine⟨0,w2,ps[i].2,1,aw,src_okS (hok.2 _ (vi Z)),λH4 s4=>⟨0,iteN (by rw [aC];rfl) ?_⟩⟩
  have af:=s3.trans s4;have ad:=af _ _ ac;have nk:ps[i].1∉vs.map (·.1):=by
   rw [hk];have aa:=hok.1.2;have e:ps.map (·.1)=(ps.take i).map (·.1)++ps[i].1::(ps.drop (i+1)).map (·.1):=by
    rw [<-ui (f:=λx:Str×D=>x.1),<-uY Z,<-uu,TJ]
   rw [e,To] at aa;exact λm=>aa.2.2 _ m _ (ug ..) rfl
  have ev:=look0 nk;have aE:vs.length=i:=by
   have:=congrArg VT hk;rw [uc,uc,U2] at this;omega
  exists 5
  refine⟨0,0,d,0,DGet.k (k:=Vc ps[i].1) ad,0,iteN (by rw [ev];rfl) ?_⟩
  exists 5
  refine⟨0,d,0,ad,1,0,iteN (uh λq=> ?_) ?_⟩
  ·have:=V.int.inj q;unfold inrK at this;rw [uc] at this;omega
  ·have aF:(inrK vs).length<sizeLine:=by
    unfold inrK;rw [uc];omega
   exists 0,0,0,d,0,DPut.k (k:=Vc ps[i].1) ad aF;have tk:Tk H4 (upd H4 d (.dK (putK (inrK vs) (Vc ps[i].1) w2))):=Tk.updD ad
   exists 5
   refine⟨vs++ [(ps[i].1,w2)],_,0,?_,?_,?_,?_⟩
   ·intro b o e;rw [qh (ql e hd)];exact(sm.trans af) _ _ e
   ·rw [qg,Kj _ ev,inrK_snoc]
   ·rw [take1 Z,uu,uu,hk]
    rfl
   ·rw [take1 Z,uu,uu];exact(((hv.mono af.tk).mono tk)).append (L2.IsL.one ((aw.mono s4.tk).mono tk))
 ·rintro σ H1 ⟨vs,nv,sv,rfl,sm,ac,hk,hv⟩;rw [aq,V6] at hk hv;have aE:vs.length=ps.length:=by
   have:=congrArg VT hk
   rwa [uc,uc] at this
  have ag:(inrK vs).map (·.1)=(ps.map (·.1)).map Sum.inr:=by rw [ZU,hk]
  exists 5
  refine⟨0,d,inrK vs,ps.map (·.1),1,ac,ag,by rw [uc];omega,λms q O ah hq=>⟨q,1,[_:SqL.of qg],λA0 ak=> ?_⟩⟩
  have s2:Same H1 (upd H1 q (.lst (ms.map V.str))):=qf hq _;have aQ:ms.length=ps.length:=by
   have:=O.length_eq
   rwa [uc] at this
  refine lc_strs (K:=K) (tl:= [u_ (.ref d)]) (λi ys H'=>∃ts:oj o3,ys=ts.map V.ref/\ts.length=i/\Same H1 H'/\H' A0=u_ (.lst ys)/\∀(j:Nat) (t:o3) (z:Str),ts[j]? =u_ t->ms[j]? =u_ z->H' t=u_ (.tup [.str z,zE vs z])) qg () ak
   ⟨[],1,1,s2.trans (qf ak _),qg,λj t z h=>by simp at h⟩ ?_ ?_
  ·rintro i z ys H' hz ⟨ts,rfl,ae,s3,hA,al⟩ _ _ _ R r;have aG:z∈ps.map (·.1):=O.mem_iff.mp (uX hz);have lk:=look2 hk hv aG
   exists 5
   refine⟨0,0,0,d,zE vs z,1,?_,(sml rfl),λt2 am=> ?_⟩
   ·have:=DGet.k (k:=Vc z) (s3 _ _ ac);rwa [lk.1] at this
   ·have s4:=qf am (.tup [V.str z,zE vs z]);have aH:t2≠A0:=λe=>by rw [e,hA] at am;cases am
    refine r _ _ (s4 _ _ hA) (s4 _ _ (by assumption)) ⟨ts++ [t2],by rw [uu];rfl,by rw [uB,ae];rfl,?_,qg,?_⟩
    ·intro b o e;have nb:b≠A0:=ql (s2 _ _ e) ak;rw [qh nb];exact s4 _ _ (s3 _ _ e)
    ·intro j t z' h1 h2;rcases UN j i with hj|hj
     ·rw [vP ()] at h1
      have:=al j t z' h1 h2;have nb:t≠A0:=λe=>by rw [e,hA] at this;cases this
      rw [qh nb];exact s4 _ _ this
     ·have aI:j=i:=by
       have:=(Ai.mp h1).1;rw [uB] at this;have:j<ts.length+1:=this;omega
      subst aI;rw [hz] at h2;cases h2;rw [U0 (),ae,GX] at h1
      cases h1;rw [qh aH];exact qg
  ·rintro ys H2 ⟨ts,rfl,ae,s3,hA,al⟩ _;have aa:=hok.1.2;have aJ:ms.Nodup:=O.nodup_iff.mpr aa;have ax:(ms.map λz=>(z,zE vs z)).map (·.1)=ms:=by
    rw [uL];exact(vO λ_ _=>rfl).trans (Hr ms)
   exists 5
   refine⟨A0,ms.map λz=>(z,zE vs z),1,⟨ts,hA,by rwa [uc],λj t p h1 h2=> ?_⟩,by rwa [ax],by rw [uc];omega,λq2 o ao=> ?_⟩
   ·rw [uI] at h2;cases h3:ms[j]? with
    |none=>rw [h3] at h2;cases h2
    |some z=>
     rw [h3] at h2;cases h2;exact al j t z h1 h3
   ·have s4:=qf ao (.frz o (.dK (inrK (ms.map λz=>(z,zE vs z)))));have ay:H1 x=u_ (.ins a.qC dx []):=sm _ _ hx;have aA:=s4 _ _ (s3 _ _ ay);have nq:q2≠x:=λe=>by rw [e,s3 _ _ ay] at ao;cases ao
    exists 5
    refine⟨0,x,a.qC,dx,[],1,aA,T.QZ,T.Q3,(by show 0<1000;decide),?_⟩
    refine k (tabOf ps ms) _ ?_ ⟨dx,q2,o,ms.map λz=>(z,zE vs z),qg,by rw [qh nq];exact qg,by rw [ax,Kt],?_⟩ ⟨[?_:?_],by rwa [Kt],by unfold tabOf;rw [uc];omega⟩ (tab_perm aa O)
    ·intro b ob e nb;rw [qh nb];exact s4 _ _ (s3 _ _ (sm _ _ e))
    ·have tk:Tk H1 (upd (upd H2 q2 (.frz o (.dK (inrK (ms.map λz=>(z,zE vs z)))))) x (.ins a.qC dx (putF "by_name" (.ref q2) []))):=(s3.trans s4).tk.trans (Tk.updI aA);have aK:∀l:oj Str,(∀z∈l,z∈ps.map (·.1))->L2.IsL H1 ((tabOf ps l).map (·.2)) ((l.map λz=>(z,zE vs z)).map (·.2)):=by
      intro l
      induction l with
      |nil=>exact λ_=>rfl
      |cons z r ih=>exact λh=>⟨_,0,(look2 hk hv (h z (ug ..))).2,ih λy hy=>h y (ud _ hy)⟩
     exact(aK ms λz hz=>O.mem_iff.mp hz).mono tk
    ·rw [Kt];exact hok.1.perm O
    ·intro p hp;exact hok.2 p ((tab_perm aa O).mem_iff.mp hp)
theorem fld_by:Vx ("by_name":Str) [(("by_name":Str),v)]=u_ v:=by simp [Vx]
theorem prs_is {H:Hp}{qs:oj (Str×D)}{vs:oj (Str×V)}{ts:oj o3}(O:vs.map (·.1)=qs.map (·.1))(hi:L2.IsL H (qs.map (·.2)) (vs.map (·.2)))(U:ts.length=vs.length)(Z:∀p∈qs,p.1.length<=100)
  (ht:∀(j:Nat) (t:o3) (p:Str×V),ts[j]? =u_ t->vs[j]? =u_ p->H t=u_ (.tup [.str p.1,p.2])):L2.IsL H (qs.map prD) (ts.map V.ref):=by
 induction qs generalizing vs ts with
 |nil=>
  have:vs= []:=by simpa using O
  subst this;have:ts= []:=by simpa using U
  subst this
  rfl
 |cons q qs ih=>
  cases vs with
  |nil=>simp at O
  |cons v vs=>
   cases ts with
   |nil=>simp at U
   |cons t ts=>
    simp![ui,vx] at O;erw[hi,u,r,e2,h1,h2];simp![ui,vx] at e2;erw[e2,rfl,rfl];have e0:=ht 0 t v rfl rfl;have hq:=Z q (ug ..);refine⟨_,0,⟨t,0,e0,⟨_,0,⟨by rw [O.1],fits ()⟩,_,0,h1,1⟩⟩,ih O.2 h2 (by simpa using U) (λp hp=>Z p (ud _ hp)) λj t' p h3 h4=>ht (j+1) t' p (by simpa using h3) (by simpa using h4)⟩
theorem yq:Vx ("source_of":Str) [(("by_name":Str),v)]=none:=by
 have:(("source_of":Str)=="by_name")=false:=by decide+kernel
 simp [Vx,this]
inductive ZZ (C:Addr) (vs:List V) (H:Hp) (Q:VK) (E_:XK):Prop
 |mk (x:Addr) (z:Str) (qs:List (Str×D)) (_:vs= [.ref x,.str z]) (_:Q5 C H x qs) (_:∀v:V,(z∈qs.map (·.1)->Is H (qy qs z) v)->(z∉qs.map (·.1)->v= .non)->Q v H)
theorem jG (T:Tx K mg a):#[K,1,a.YG,a.Yt,["self","name"],(ZZ a.qC)]:=by
 refine T.g_Project_source_of.F.ok JQ () (λ_ _ _ _ H vs Q E U h=> ?_)
 erw[h,x,z,qs,rfl,[dx,d,o,vs,Z,hd,O,hv],k];exists 3,%[|#[qr,#[pe_dget1,7,QW U,#[qO,5,pv 0,rfl],pv 1,⟨1,1,1,1⟩]]]
 exists 0,x,a.qC,dx,_,0,Z,T.QZ,T.Q3,fld_by,d,1,.inl [_:.inr [o:hd]],0,_,.inl ⟨_,Vc z,.inr [o:hd],1,1⟩;refine k _ (λc=> ?_) λc=> ?_
 ·exact(look2 O hv c).2
 ·rw [look0 (by rwa [O])]
  rfl
def rowT (zs:oj Str):D:= .tup (zs.map D.str)
def rowG (acc:oj Str):oj Str->oj Str
 | []=>acc
 |z::r=>if isT (rowT (acc++ [z]))=v_ then rowG (acc++ [z]) r else acc
inductive WC (K:PySem.W.Frag) (vs:List V) (H:Hp) (Q:VK) (E_:XK):Prop
 |mk (L:Addr) (zs:List Str) (_:vs= [.ref L]) (_:H L=u_ (.lst (zs.map V.str))) (_:(∀z∈zs,z.length<=100)) (_:zs.length<=100) (_:∀(v:V) (H':Hp),Same H H'->Is H' (rowT (rowG [] zs)) v->Q v H')
variable {xs:oj V}{Q:VK}
theorem cat1 {K:o0}{a:o3}{x:V}(ha:H a=u_ (.tup xs))(O:xs.length+1<=Vb)(k:∀p H',Same H H'->H' p=u_ (.tup (xs++ [x]))->Q (.ref p) H'):
  [x].length<=Vb/\∀q,H q=U_->rCatG K (.ref a) (.ref q) (upd H q (.tup [x])) Q:=by
 refine[sml rfl:λq U=> ?_];have s1:Same H (upd H q (.tup [x])):=qf U _;refine⟨a,q,xs,[x],1,1,SqT.of (s1 _ _ ha),SqT.of qg,O,λe=> ?_,(λ_ e=>by cases e),λ_ _ p Z=> ?_⟩
 ·refine k q _ s1 ?_;rw [e];exact qg
 ·exact k p _ (s1.trans (qf Z _)) qg
variable {zs:oj Str}{p:o3}
theorem is_row (h:H p=u_ (.tup (zs.map V.str)))(U:∀z∈zs,z.length<=100):Is H (rowT zs) (.ref p):=by
 have O:∀(zs:oj Str),(∀z∈zs,z.length<=100)->IsL H (zs.map D.str) (zs.map V.str):=by
  intro zs
  induction zs with
  |nil=>exact λ_=>rfl
  |cons z r Z=>
   intro h;exact⟨_,0,⟨1,fits (by have:=h z (ug ..);omega)⟩,Z λy hy=>h y (ud _ hy)⟩
 exact⟨p,0,h,O zs U⟩
theorem rowG_mem:∀(zs O:oj Str) (z:Str),z∈rowG O zs->z∈O∨z∈zs
 | [],O,z,h=> .inl h
 |y::r,O,z,h=>by
  unfold rowG at h;split at h
  ·rcases rowG_mem r _ z h with h|h
   ·rcases Af.mp h with h|h
    ·exact .inl h
    ·exact .inr (by rw [Ae.mp h];exact ug ..)
   ·exact .inr (ud _ h)
  ·exact .inl h
inductive sp_looked (C:Addr) (vs:List V) (H:Hp) (Q:VK) (E_:XK):Prop
 |mk (x t:Addr) (kind text:Str) (qs:List (Str×D)) (_:vs= [.ref x,.ref t]) (_:Q5 C H x qs) (_:Qn qs) (_:H t=u_ (.tup [.str kind,.str text])) (_:text.length<=1000) (_:((kind="has"/\Q (.str (if text∈qs.map (·.1) then "yes" else "no")) H)∨(kind="names"/\∀(v:V) (H':Hp),Same H H'->Is H' (rowT (rowG [] ((qs.map (·.1)).filter λz=>g_ z text))) v->Q v H')))
theorem has_key {vs:oj (Str×V)}(O:vs.map (·.1)=qs.map (·.1))(hi:L2.IsL H (qs.map (·.2)) (vs.map (·.2)))(z:Str):(valV (inrK vs) (Vc z)).isSome=decide (z∈qs.map (·.1)):=by
 by_cases c:z∈qs.map (·.1)
 ·rw [(look2 O hi c).1,uf c]
  rfl
 ·rw [look0 (by rw [O];exact c),uh c]
  rfl
theorem ok_longest (T:Tx K mg a):#[K,3,a.Xx,a.Xu,["names"],(WC K)]:=by
 have yB:=#[jh,T];exists 9,T.g_longest_row,y6
 erw[h,L,zs,rfl,hL,hz,hn,k];have hs:=uF;exists 3,%[#[qD,(1),y6.nd,#[qE,qc]],#[jf,#[pi_list,4,pv 0],#[qZ,(2),y6.nd],%[#[qL,#[QE,#[Qr,#[qt,yB,hr.mono (),T.g_is_tree,#v[#[qV,Z0,pv 1,#[qE,#v[pv 2]]]]]]],%[|ps_break],qx]|#[qD,(1),y6.nd,#[qV,Z0,pv 1,#[qE,#v[pv 2]]]]]]|#[qr,pv 1]]
 exists 5
 refine[(sml rfl):λq hq=> ?_];have s1:Same H (upd H q (.tup [])):=qf hq _
 exists 5
 refine⟨0,L,1,[_:SqL.of (s1 _ _ hL)],for_list (K:=K) (a:=L) (xs:=zs.map V.str) (λi σ H'=>∃(row:oj Str) (p:o3) (kv:om V),σ= [u_ (.ref L),u_ (.ref p),kv]/\H' p=u_ (.tup (row.map V.str))/\Same H H'/\rowG row (zs.drop i)=rowG [] zs/\row.length<=i/\∀z∈row,z∈zs)
  ⟨[],q,U_,1,qg,s1,1,uj _,λz h=>nomatch h⟩ (λi σ H' _ ⟨_,_,_,_,_,s2,_⟩=>SqL.of (s2 _ _ hL)) ?_ ?_⟩
 ·rintro i x σ H' hi ⟨row,p,kv,rfl,Z,s2,O,hl,hm⟩;have U:i<zs.length:=by
   have:=(Ai.mp hi).1
   simpa using this
  obtain rfl:x=V.str zs[i]:=by
   rw [uI,ur U] at hi;exact(uK hi).symm
  have ed:zs.drop i=zs[i]::zs.drop (i+1):=uY U;rw [ed] at O;rw [show rowG row (zs[i]::zs.drop (i+1))=if isT (rowT (row++ [zs[i]]))=v_ then rowG (row++ [zs[i]]) (zs.drop (i+1)) else row from rfl] at O
  have aa:∀z∈row++ [zs[i]],z∈zs:=λz h=>by
   rcases Af.mp h with h|h
   ·exact hm z h
   ·rw [Ae.mp h];exact vi U
  have hsz:(row.map V.str).length+1<=sizeLine:=by rw [uc];omega
  have em:row.map V.str++ [V.str zs[i]]=(row++ [zs[i]]).map V.str:=by simp
  exists 5
  refine⟨0,0,cat1 Z hsz λp2 H3 s3 h3=>⟨_,rowT (row++ [zs[i]]),1,is_row (by rw [h3,em]) λz h=>hz z (aa z h),λH4 s4=>[0:?_]⟩⟩
  cases hT:isT (rowT (row++ [zs[i]])) with
  |false=>
   rw [A2 (by rw [hT];exact u5)] at O
   refine iteT [0:k _ H4 ((s2.trans s3).trans s4) ?_];rw [<-O];exact is_row (s4 _ _ (s3 _ _ Z)) λz h=>hz z (hm z h)
  |true=>
   rw [Aa hT] at O;refine iteF [0:0:cat1 (s4 _ _ (s3 _ _ Z)) hsz λp5 H5 s5 h5=> ?_];exact⟨row++ [zs[i]],p5,0,by rw [h5,em],((s2.trans s3).trans s4).trans s5,O,by rw [uB];show row.length+1<=i+1;omega,aa⟩
 ·rintro σ H' ⟨row,p,kv,rfl,Z,s2,O,hl,hm⟩
  exists 5
  refine[0:k _ H' s2 ?_];rw [uc,rF] at O;rw [<-O];exact is_row Z λz h=>hz z (hm z h)
theorem ok_looked (T:Tx K mg a):#[K,4,a.YB,a.YA,["self","ask"],(sp_looked a.qC)]:=by
 have Ke:=#[ok_longest,T];refine T.g_Project_looked_up.F.ok JP () (λ_ _ _ _ H vs Q E hr h=> ?_)
 erw[h,x,t,kind,text,qs,rfl,[dx,d,o,vs,hx,hd,hk,hv],U,Z,ad,h];have hs:=uF;exists 3,%[#[qL,#[qp,QF,#[qJ,qI,pv 1,qi],qk,qB _],%[|#[qr,#[Q2,#[pt_cmp,6,#[pc_din,5,QW hr,#[qJ,qI,pv 1,qi],#[qO,5,pv 0,rfl]],_],qk,qk]]],qx]|#[qr,#[qt,Ke,hr.mono (),T.g_longest_row,#v[#[Zm,2,["name","ask"],(1),[1],9,lcsN (qj QN) ["self","ask"],rfl,#[pi_dicF,4,#[qO,5,pv 0,rfl]],(λ_ _ _ _ _ _=>#[qZ,(0),(show Vz (["name","ask"]:oj Str) by decide+kernel)]),(λ_ _ _ _ _ _=>#[pif_one,3,#[Qr,#[pe_bmK,1,K,11,rfl,uU,PySem.F.slot_str_startswith,PySem.F.type_str_startswith,mt_starts,pv 0,#v[#[qJ,#[ix_tupK,1,K,rfl],pv 1,qi]],_,_,_,_,_]]]),(λ_ _ _ _ _ _=>(pv 0)),_]]]]]
 exists 0,t,_,_,0,1,SqT.of Z,1,1,0;rcases h with⟨rfl,k⟩|⟨rfl,k⟩
 ·refine iteB (uf rfl) ?_
  exists 0,t,_,_,0,1,SqT.of Z,1,0,x,a.qC,dx,_,0,hx,T.QZ,T.Q3,fld_by,d,0,.inl ⟨_,Vc text,.inr [o:hd],1,1⟩,0;rw [has_key hk hv];by_cases c:text∈qs.map (·.1)
  ·rw [Aa c] at k;exact iteB (uf c) k
  ·rw [A2 c] at k;exact iteN (uh c) k
 ·refine iteN () ?_
  have O:(inrK vs).map (·.1)=(qs.map (·.1)).map Sum.inr:=by rw [ZU,hk]
  exists 5
  refine⟨0,x,a.qC,dx,_,0,hx,T.QZ,T.Q3,fld_by,d,o,0,hd,λA0 aa=> ?_⟩;refine lc_dicF (tl:= [u_ (.ref t)]) (λz=>g_ z text) V.str hd O (by rw [uc];have:=U.2.2;omega) aa (λz H1 R hz s1 r=> ?_) (λz H1 R hz s1 r=>[0:r]) λH1 s1 h1=> ?_
  ·exact⟨0,1,0,t,_,_,0,1,SqT.of (s1 _ _ Z),1,z,text,1,1,0,r⟩
  ·exists 5
   refine⟨A0,0,h1,λz hz=> ?_,?_,λv H2 s2 ac=>k v H2 (s1.trans s2) ac⟩
   ·have:=w9 (U.1.1.1 z (Ah.mp hz).1);omega
   ·have:=Uz (λz=>g_ z text) (qs.map (·.1));rw [uc] at this;have:=U.2.2;omega
def ZR:D->Bool
 | .non=>v_
 |_=>V9
def X4:D->D
 | .tup [_,d]=>d
 |d=>d
def zg (d:D):Prop:=d= .non∨isT d=v_
def Gd (d:D):Prop:=good d=v_/\dp d<=20
theorem gd_flt:∀z∈(["kind","big","told","silent","long","name"]:oj Str),good (flt z)=true:=by decide+kernel
theorem gd_f (h:z∈(["kind","big","told","silent","long","name"]:oj Str)):Gd (flt z):=⟨gd_flt z h,by show dp (.tup [.str "fault",.str z])<=20;simp [dp,dpL]⟩
theorem gd_two {u:Str}{d:D}(O:Qy u=v_)(h:isT d=v_):Gd (.tup [.str u,d]):=by
 have U:=yt h;have hd:=J0 h;refine[?_:?_]
 ·simp![good,goodL,O,U,vU]
  rfl
 ·simp![dp,dpL];omega
theorem gd_three {u w:Str}{d:D}(O:Qy u=v_)(U:Qy w=v_)(h:isT d=v_):Gd (.tup [.str u,.tup [.str w,d]]):=by
 have Z:=yt h;have hd:=J0 h;refine[?_:?_]
 ·simp![good,goodL,O,U,Z,vU]
  rfl
 ·simp![dp,dpL];omega
theorem rowO_gd {B:Str->D}{p:Int}(hr:jS n 300 r)(h:Tr B)(O:rowO own r B p= .stop e):Gd e:=by
 unfold rowO at O;erw[id hr,ks,hk,hp];erw[r,U,ps];by_cases c1:U∈MKR
 ·rw [Aa c1] at O;simp only at O;generalize made U B own ps=dm at O;have aa:(if isT dm=v_ then Out.go (setB B (b0 ps) dm) (p+1) else .stop (flt "big"))= .stop e->Gd e:=by
   intro hq;by_cases c:isT dm=v_
   ·rw [Aa c] at hq;cases hq
   ·rw [A2 c] at hq;cases hq;exact gd_f ()
  cases dm with
  |non=>cases O;exact gd_f ()
  |_=>exact aa O
 rw [A2 c1] at O;by_cases c2:U∈ASK
 ·rw [Aa c2] at O;cases O;erw[wN _ hk c2,_,_,Z];simp only at Z;subst Z;erw[wD hp,z0,z1,rfl,h0,h1];have hT:=h z1 h1;show Gd (askF U (B z1));unfold askF;by_cases d1:U="names"
  ·rw [Aa d1];by_cases d2:isStr (B z1)=v_
   ·rw [Aa d2];exact gd_three () () hT
   ·rw [A2 d2];exact gd_f ()
  ·rw [A2 d1];by_cases d2:isNm (B z1)=v_
   ·rw [Aa d2];refine gd_three () ?_ hT
    split<;>decide+kernel
   ·rw [A2 d2];exact gd_f ()
 rw [A2 c2] at O;by_cases c3:U="say"
 ·rw [Aa c3] at O;cases O;subst c3;have Z:=frm_say _ hk rfl;simp only at Z;subst Z;erw[sh_b hp,z0,rfl,h0];exact gd_two () (h z0 h0)
 rw [A2 c3] at O;by_cases c4:U="fault"
 ·rw [Aa c4] at O;cases O;exact gd_f ()
 rw [A2 c4] at O;by_cases c5:jump U B ps=v_
 ·rw [Aa c5] at O;cases O
 ·rw [A2 c5] at O;cases O
def ansS (rs:oj Rw)(own:Str)(r:Rn)(a:D):Rn:=if ZR a=v_ then⟨r.B,r.p,r.n+1,r.gs++ [.tup [X4 r.th,a]],flt "lack"⟩ else runS rs own (r.gs++ [.tup [X4 r.th,a]]) (300-(r.n+1)) (setB r.B (b0 (jW rs r.p).2) a) (r.p+1) (r.n+1)
structure RnOk (rs:oj Rw)(r:Rn):Prop where
 tr:Tr r.B
 p1:1<=r.p
 p2:r.p<=rs.length+1
 n:r.n<=300
 gd:Gd r.th
 two:∃w e,r.th= .tup [.str w,e]
 gs:nL r.gs=v_/\dpL r.gs<=30/\r.gs.length<=r.n
 ask:QS r.th=v_->r.p<=rs.length/\(jW rs r.p).1∈ASK/\r.n<300/\∃(u:Str) (d:D),r.th= .tup [.str "asks",.tup [.str u,d]]/\u∈(["thing","has","names"]:oj Str)/\isT d=v_
mutual
theorem WE:∀{d:D},good d=v_->nD d=v_
 | .str _,_=>rfl
 | .tup xs,h=>by
  simp![good,uw] at h;simp![nD];exact goodL_n h.2
 | .non,h=>by simp [good] at h
 | .bl _,h=>by simp [good] at h
 | .int _,h=>by simp [good] at h
 | .lst,h=>by simp [good] at h
 | .dct,h=>by simp [good] at h
theorem goodL_n:∀{ds:oj D},goodL ds=v_->nL ds=v_
 | [],_=>rfl
 |d::ds,h=>by
  simp![goodL,uw] at h;simp![nL];rw [WE h.1,goodL_n h.2]
  rfl
end
theorem nL_app:∀{xs ys:oj D},nL xs=v_->nL ys=v_->nL (xs++ys)=v_
 | [],_,_,h=>h
 |x::xs,ys,h,h2=>by
  simp![nL,uw] at h;simp![Ui,nL];rw [h.1,nL_app h.2 h2]
  rfl
theorem dpL_app (n:Nat){xs ys:oj D}(h:dpL xs<=n)(h2:dpL ys<=n):dpL (xs++ys)<=n:=by
 rw [zV] at h h2⊢;intro x O;rcases Af.mp O with O|O
 ·exact h x O
 ·exact h2 x O
theorem rowO_ask {B:Str->D}{p:Int}(hr:jS n 300 r)(h:Tr B)(O:rowO own r B p= .stop e)(U:QS e=v_):r.1∈ASK/\∃(u:Str) (d:D),e= .tup [.str "asks",.tup [.str u,d]]/\u∈(["thing","has","names"]:oj Str)/\isT d=true:=by
 unfold rowO at O;erw[id hr,ks,hk,hp];erw[r,Z,ps];by_cases c1:Z∈MKR
 ·rw [Aa c1] at O;simp only at O;generalize made Z B own ps=dm at O;have aa:(if isT dm=v_ then Out.go (setB B (b0 ps) dm) (p+1) else .stop (flt "big"))= .stop e->False:=by
   intro hq;by_cases c:isT dm=v_
   ·rw [Aa c] at hq;cases hq
   ·rw [A2 c] at hq;cases hq;exact absurd U ()
  cases dm with
  |non=>cases O;exact absurd U ()
  |_=>exact(aa O).elim
 rw [A2 c1] at O;by_cases c2:Z∈ASK
 ·rw [Aa c2] at O;cases O;exists c2;erw[wN _ hk c2,_,_,ek];simp only at ek;subst ek;erw[wD hp,z0,z1,rfl,h0,h1];have hT:=h z1 h1;have U:QS (askF Z (B z1))=true:=U;show∃u d,askF Z (B z1)=_/\_;unfold askF at U⊢;by_cases d1:Z="names"
  ·rw [Aa d1] at U⊢;by_cases d2:isStr (B z1)=v_
   ·rw [Aa d2];exact⟨_,0,(),hT⟩
   ·rw [A2 d2] at U;exact absurd U ()
  ·rw [A2 d1] at U⊢;by_cases d2:isNm (B z1)=v_
   ·rw [Aa d2];exact⟨_,0,by split<;>decide+kernel,hT⟩
   ·rw [A2 d2] at U;exact absurd U ()
 rw [A2 c2] at O;by_cases c3:Z="say"
 ·rw [Aa c3] at O;cases O;exact absurd U (by simp![QS];exact λh=>absurd (uA h) ())
 rw [A2 c3] at O;by_cases c4:Z="fault"
 ·rw [Aa c4] at O;cases O;exact absurd U ()
 rw [A2 c4] at O;by_cases c5:jump Z B ps=v_
 ·rw [Aa c5] at O;cases O
 ·rw [A2 c5] at O;cases O
theorem runS_ok {rs:oj Rw}{own:Str}(hR:ya rs):∀(f:Nat) (B:Str->D) (p:Int) (n:Nat) (gs:oj D),f+n=300->Tr B->1<=p->p<=rs.length+1->nL gs=v_/\dpL gs<=30/\gs.length<=n->RnOk rs (runS rs own gs f B p n)
 |0,B,p,n,gs,hf,hT,h1,h2,hg=>by
  have U:QS (if p>rs.length then flt "silent" else flt "long")=false:=by split<;>decide+kernel
  refine⟨hT,h1,h2,by show n<=300;omega,?_,?_,hg,λh=>absurd (U.symm.trans h) ()⟩
  ·show Gd (if p>rs.length then flt "silent" else flt "long")
   split
   ·exact gd_f ()
   ·exact gd_f ()
  ·show∃w e,(if p>rs.length then flt "silent" else flt "long")=_
   split
   ·exact[_:0]
   ·exact[_:0]
 |f+1,B,p,n,gs,hf,hT,h1,h2,hg=>by
  unfold runS;by_cases c:p>rs.length
  ·rw [Aa c];exact⟨hT,h1,h2,by show n<=300;omega,gd_f (),[_:0],hg,λh=>absurd h (show¬QS (flt "silent")=v_ by decide+kernel)⟩
  ·rw [A2 c];have O:=hR.ok _ (kG h1 ())
   have hok:=rowO_ok (own:=own) O hT h1 ()
   cases Z:rowO own (jW rs p) B p with
   |go B' p'=>
    rw [Z] at hok;exact runS_ok hR f B' p' (n+1) gs () hok.1 hok.2.1 hok.2.2 ⟨hg.1,hg.2.1,by have:=hg.2.2;omega⟩
   |stop e=>
    rw [Z] at hok;simp only;refine⟨hT,h1,h2,?_,rowO_gd O hT Z,hok,[hg.1:hg.2.1:?_],λU=> ?_⟩
    ·show(if QS e=v_ then n else n+1)<=300
     split<;>omega
    ·show gs.length<=(if QS e=v_ then n else n+1)
     have:=hg.2.2;split<;>omega
    ·erw[rowO_ask O hT Z U,a1,u,d,a2,a3,a4];refine⟨by show p<=rs.length;omega,a1,?_,u,d,a2,a3,a4⟩
     show(if QS e=v_ then n else n+1)<300
     rw [Aa (show QS e=v_ from U)]
     omega
theorem ansS_ok (Z:ya rs){r:Rn}{a:D}(h:RnOk rs r)(hw:QS r.th=v_)(ha:zg a):RnOk rs (ansS rs own r a):=by
 erw[h.ask hw,k1,k2,k3,u,d,e,k4,k5];have O:nD a=v_/\dp a<=12:=by
  rcases ha with rfl|ha
  ·exact⟨1,by simp [dp]⟩
  ·exact[WE (yt ha):J0 ha]
 have aa:=J0 k5;have U:nL (r.gs++ [D.tup [X4 r.th,a]])=v_/\dpL (r.gs++ [D.tup [X4 r.th,a]])<=30/\(r.gs++ [D.tup [X4 r.th,a]]).length<=r.n+1:=by
  rw [e];show nL (r.gs++ [.tup [.tup [.str u,d],a]])=v_/\_;refine[nL_app h.gs.1 ?_:dpL_app 30 h.gs.2.1 ?_:?_]
  ·simp![nL,nD,WE (yt k5),O.1,vU]
  ·show dpL [.tup [.tup [.str u,d],a]]<=30;simp![dpL,dp];have:=O.2;omega
  ·rw [uB];have:=h.gs.2.2;show r.gs.length+1<=r.n+1;omega
 unfold ansS;cases hn:ZR a with
 |true=>
  rw [Aa rfl];exact⟨h.tr,h.p1,h.p2,by show r.n+1<=300;omega,⟨(by decide+kernel:good (flt "lack")=v_),by show dp (.tup [.str "fault",.str "lack"])<=20;simp [dp,dpL]⟩,[_:0],U,λh=>absurd h (show¬QS (flt "lack")=v_ by decide+kernel)⟩
 |false=>
  rw [A2 u5];have hT:isT a=true:=by
   rcases ha with rfl|ha
   ·cases hn
   ·exact ha
  refine runS_ok Z _ _ _ _ _ () (kS h.tr hT) (by have:=h.p1;omega) () U
variable {u:V}
theorem X8 {d:D}(O:Is H d u)(U:d≠ .non):u≠ .non:=by
 rintro rfl;cases d with
 |non=>exact U rfl
 |bl b=>cases(show V.non= .bl b from O)
 |int i=>cases(show V.non= .int i from O)
 |str z=>erw[O,h,_];cases h
 |lst=>erw[O,_,_,h,_];cases h
 |dct=>erw[O,_,_,h,_];cases h
 |tup xs=>erw[O,_,_,h,_];cases h
theorem ask_sh (O:jS n 300 r)(hs:r.1∈ASK):∃U z1,r.2= [.s U,.s z1]/\U∈BX:=by
 erw[id O,ks,hk,hp];erw[wN _ hk hs,_,_,Z];simp only at Z;subst Z;erw[wD hp,x,y,e,hx,hy];exact⟨x,y,e,hx⟩
def isRow:D->Bool
 | .tup xs=>xs.all isNm
 |_=>V9
def ansB (u:Str)(a:D):Bool:=if ZR a=v_ then decide (u="thing") else if isT a=v_ then(if u="has" then(["yes","no"]:oj Str).any (λz=>eqD a (.str z)) else decide (u="thing")||isRow a) else V9
theorem ansB_ok {u:Str}{a:D}(h:ansB u a=v_):zg a:=by
 unfold ansB at h;cases hn:ZR a with
 |true=>
  cases a with
  |non=>exact .inl rfl
  |_=>cases hn
 |false=>
  rw [hn,A2 u5] at h;by_cases c:isT a=v_
  ·exact .inr c
  ·rw [A2 c] at h;cases h
inductive sp_rown (vs:List V) (H:Hp) (Q:VK) (E_:XK):Prop
 |mk (v:V) (d:D) (_:vs= [v]) (_:Is H d v) (_:isT d=v_) (_:∀H',Same H H'->Q (.bl (isRow d)) H')
inductive sp_isans (vs:List V) (H:Hp) (Q:VK) (E_:XK):Prop
 |mk (v1 v2:V) (u:Str) (d a:D) (_:vs= [v1,v2]) (_:Is H (.tup [.str u,d]) v1) (_:Is H a v2) (_:∀H',Same H H'->Q (.bl (ansB u a)) H')
inductive sp_ans (C:Addr) (vs:List V) (H:Hp) (Q:VK) (E_:XK):Prop
 |mk (m:Mc) (r:Rn) (v:V) (u:Str) (d a:D) (_:vs= [.ref m.x,v]) (_:Yc C H m r) (_:RnOk m.rs r) (_:r.th= .tup [.str "asks",.tup [.str u,d]]) (_:Is H a v) (_:ya m.rs) (_:m.own.length<=100) (_:ansB u a=v_) (_:∀H',Mv m H H'->Yc C H' m (ansS m.rs m.own r a)->Q .non H')
theorem ok_rown (T:Tx K mg a):#[K,2,a.je,a.ji,["tree"],sp_rown]:=by
 have Q1:=#[X3,T];refine T.g_is_row_of_names.F.ok Xj () (λ_ _ _ _ H vs Q E hr h=> ?_)
 erw[h,v,d,rfl,iv,hT,k];exists 3,%[|#[qr,#[pe_and,7,#[qz,#[Qa,2,rfl],T.qU,v9,#v[pv 0,#[Q6,.ty "tuple",T.Qk,vc]]],#[pe_one,#[qz,#[wY,1,rfl],T.z_all,HW,#v[#[Zm,["part"],[],lcs0,#[KC,4,pv 0],(λ_ _ _ _ _ _=>#[qZ,(0),(show Vz (["part"]:oj Str) by decide+kernel)]),(λ_ _ _ _ _ _=>#[qt,Q1,hr.mono (),T.g_is_name,#v[pv 0]])]]]]]]]
 exists 0,v,"tuple",tyD d,X1 d,1,iv.ty,xQ _;cases d with
 |tup xs=>
  exists 5
  refine[0:iteT ?_];erw[iv,a0,vs,rfl,O,U];have hl:xs.length<=1000:=by
   have hg:=yt hT;simp![good,uw] at hg;have:=uA hg.1;omega
  exists 5
  refine⟨0,a0,vs,1,SqT.of O,λaa A0 Z=> ?_⟩;refine lc_tupS (tl:= []) (λd=> .bl (isNm d)) O U (yD hl) Z (λd0 x0 H3 R ac s3 i3 r=> ?_) λH1 ys s1 l1 i1=> ?_
  ·exact⟨0,x0,d0,1,i3,λH4 s4=>r _ H4 s4 rfl⟩
  have ey:ys=(xs.map isNm).map V.bl:=IsL.bls (by rwa [uL])
  exists A0,xs.map isNm,1,SqL.of (by rw [l1,ey])
  have:(xs.map isNm).all id=isRow (.tup xs):=by rw [UM];rfl
  rw [this];exact k H1 s1
 |str z=>exact[0:iteF (k H (Same.refl _))]
 |non=>exact[0:iteF (k H (Same.refl _))]
 |int z=>exact[0:iteF (k H (Same.refl _))]
 |bl z=>exact[0:iteF (k H (Same.refl _))]
 |lst=>exact[0:iteF (k H (Same.refl _))]
 |dct=>exact[0:iteF (k H (Same.refl _))]
theorem ok_isans (T:Tx K mg a):#[K,3,a.wT,a.ZL,["ask","answer"],sp_isans]:=by
 have yB:=#[jh,T];have zn:=#[ok_rown,T];exists 9,T.g_is_answer,sc_is_answer,Z
 erw[h,v1,v2,u,d,an,rfl,i1,U,k];exists 3,%[#[qL,#[qp,Yb,pv 1,qW,qB _],%[|#[qr,#[yJ,QF,#[qJ,J3,pv 0,qi],qk,qB _]]],qx],#[qL,#[QE,#[Qr,#[qt,yB,Z.mono (),T.g_is_tree,#v[pv 1]]]],%[|#[qr,Jh]],qx],#[qL,#[qp,QF,#[qJ,J3,pv 0,qi],qk,qB _],%[|#[qr,#[yJ,#[op_inM,1,Z.units],pv 1,#[qE,#v[qk,qk]],#[w]]]],qx]|#[qr,#[pe_or,7,#[yJ,QF,#[qJ,J3,pv 0,qi],qk,qB _],#[pe_one,#[qt,zn,Z.mono (),T.g_is_row_of_names,#v[pv 1]]]]]]
 have two:(2:Nat)<=sizeLine:=by decide
 have es:∀y:Str,decide (V.str u=V.str y)=decide (u=y):=λy=>by
  rw [uZ];exact⟨λh=>by injection h,λh=>by rw [h]⟩
 have iu:∀{H:Hp}{Q:VK},Is H (.tup [.str u,d]) v1->Q (.str u) H->rIxT K v1 (.int 0) H Q:=λ{H Q} i q=>xJ (i:=0) (d:= .str u) i (Qc (j:=0) rfl) λx hx=>by
  erw[hx,rfl,_];exact q
 exists 0,1,0;unfold ansB at k;by_cases cn:an= .non
 ·subst cn;cases(show v2= .non from U)
  refine QK () ?_
  exists 5
  refine[0:.inr (.inl (iu i1 [1:?_]))];rw [es];exact k H (Same.refl _)
 ·have aa:v2≠ .non:=X8 U cn;have ac:ZR an=false:=by
   cases an with
   |non=>exact absurd rfl cn
   |_=>rfl
  rw [ac,A2 u5] at k;refine Qq (uh aa) ?_
  exists 5
  refine⟨0,v2,an,1,U,λH1 s1=>[0:?_]⟩;by_cases O:isT an=v_
  ·rw [Aa O] at k;rw [O];refine iteF ?_
   exists 5
   refine[0:.inr (.inl (iu (i1.mono s1.tk) [1:0:?_]))];rw [es];by_cases ch:u="has"
   ·rw [Aa ch] at k;refine QK (uf ch) ?_
    exists 5
    refine[0:two:λt1 h1=> ?_];have s2:=qf h1 (.tup [.str "yes",.str "no"])
    exists 5
    refine⟨an,t1,["yes","no"],(U.mono s1.tk).mono s2.tk,1,.inr (SqT.of qg),?_,?_,?_,k _ (s1.trans s2)⟩
    ·intro z hz;simp![uC,vm,uO] at hz;rcases hz with rfl|rfl<;>decide+kernel
    ·have hg:=yt O;cases an with
     |non=>rfl
     |str z=>rfl
     |tup xs=>
      show puL xs=v_;simp![good,uw] at hg;exact goodL_pu hg.2
     |_=>simp [good] at hg
    ·have:=J0 O;omega
   ·rw [A2 ch] at k;refine Qq (uh ch) ?_
    exists 5
    refine[0:.inr (.inl (iu (i1.mono s1.tk) [1:?_]))]
    exists 0;rw [es];by_cases ct:u="thing"
    ·rw [uf ct] at k⊢;refine iteT ?_;exact k _ s1
    ·rw [uh ct] at k⊢;refine iteF ?_;exact⟨0,v2,an,1,U.mono s1.tk,O,λH2 s2=>k H2 (s1.trans s2)⟩
  ·rw [A2 O] at k;have:isT an=false:=by
    cases h:isT an with
    |true=>exact absurd h O
    |false=>rfl
   rw [this];exact iteT (k _ s1)
theorem ok_ans (T:Tx K mg a)(C:Fx K w mg g a):#[K,6,a.jR,a.jJ,["self","tree"],(sp_ans a.qo)]:=by
 have Qp:=#[ok_wait,T];have O:=#[ok_isans,T];have Yy:=#[ok_goon,T,C];exists 9,T.g_Machine_answer,jk
 erw[h,m,[B,p,n,gs,th],v,u,d,an,rfl,M,hO,al,iv,hR,aP,am,k];exists 3,%[#[qL,#[QE,#[Qr,#[yg,pv 0,T.qv,T.g_Machine_is_waiting,Qp]]],%[|YQ],qx],#[qD,(2),jk.nd,#[qJ,J3,#[qO,5,pv 0,rfl],qi]],#[qL,#[QE,#[Qr,#[qt,O,hr.mono (),T.g_is_answer,#v[pv 2,pv 1]]]],%[|YQ],qx],#[qY,#[YL,uN,vd,ve,yb,#[qO,5,pv 0,rfl],#v[#[qE,#v[pv 2,pv 1]]]]],#[Jx,10,pv 0,qi,in_add],#[qL,#[qp,Yb,pv 1,qW,qB _],%[#[Qg,#[qE,#v[qk,qk]]]|ps_retN],qx],#[Js,#[qO,5,pv 0,rfl],#[qJ,J3,#[qJ,J3,#[qJ,qI,#[qO,5,pv 0,rfl],#[qV,op_sub,#[qO,5,pv 0,rfl],qi]],qi],qi],pv 1],#[Jx,10,pv 0,qi,in_add],#[Qg,qW]|#[qY,#[yg,pv 0,T.qv,T.g_Machine_go_on,Yy]]]
 simp only at al;subst al;have two:(2:Nat)<=sizeLine:=by decide
 have hw:QS (.tup [.str "asks",.tup [.str u,d]])=true:=by simp [QS]
 erw[hO.ask hw,af,ad,aQ,_];have ag:=hO.p1;have ao:=hO.gs.2.2;have ap:=hO.tr;simp only at af ad aQ ag ao ap;have hM:=M;erw[hM,dx,fs,rv,ru,tv,gv,e,f,ir,ij,ib,hg,gl,it];simp only at f ib gl it;have aR:fs.length<1000:=by have:=f.len;omega
 exists 8,N1,q1
 exists 0,m.x,dx,fs,1,e,f.meth _ (),m,0,M,.inr [_:0],0
 refine Qq (by show(!QS (.tup [.str "asks",.tup [.str u,d]]))=V9;rw [hw];rfl) ?_
 refine q1 _ _ ?_;exists 8,N2,q2
 exists 5
 refine⟨0,m.x,_,dx,fs,0,e,T.qv,T.qN,f.there,.inr (.inl (xJ (i:=1) it (Qc (j:=1) rfl) λq hq=> ?_))⟩;refine q2 _ _ ?_;exists 8,N3,q3
 exists 5
 refine⟨0,0,q,v,u,d,an,1,hq,iv,λH1 s1=>[0:?_]⟩;rw [am];refine iteF ?_;refine q3 _ _ ?_;exists 8,N4,q4;have ha:=ansB_ok am
 exists 5
 refine⟨0,m.x,_,dx,fs,0,s1 _ _ e,T.qv,T.Yz,f.given,.inl [1:_:SqL.of (s1 _ _ hg)],0,0,two,λt1 h1=> ?_⟩;have s2:=qf h1 (.tup [q,v]);have ip:Is (upd H1 t1 (.tup [q,v])) (.tup [.tup [.str u,d],an]) (.ref t1):=Is.new (ds:= [.tup [.str u,d],an]) ⟨_,0,hq.mono s1.tk,_,0,iv.mono s1.tk,1⟩ h1;have S2:=s1.trans s2;generalize upd H1 t1 (.tup [q,v])=H2 at s2 ip S2⊢;have bf:gv.length=gs.length:=gl.length;have aq:=S2 _ _ hg
 exists m.dg,gv,0,1,aq,Xy ()
 have t3:Tk H2 (upd H2 m.dg (.lst (gv++ [.ref t1]))):=Tk.updL aq;have aS:m.x≠m.dg:=λz=>by rw [<-z,e] at hg;cases hg
 have au:m.db≠m.dg:=λz=>by
  erw[ib,ff,e2,_];rw [z,hg] at e2;cases e2
 have e3:(upd H2 m.dg (.lst (gv++ [.ref t1]))) m.x=u_ (.ins a.qo dx fs):=by rw [qh aS];exact S2 _ _ e
 have T3:Tk H (upd H2 m.dg (.lst (gv++ [.ref t1]))):=S2.tk.trans t3;have aw:=(ib.same S2).move t3 (qh au);have ax:L2.IsL (upd H2 m.dg (.lst (gv++ [.ref t1]))) (gs++ [.tup [.tup [.str u,d],an]]) (gv++ [.ref t1]):=(gl.mono T3).append (IsL.one (ip.mono t3));have ay:(upd H2 m.dg (.lst (gv++ [.ref t1]))) m.dg=u_ (.lst (gv++ [.ref t1])):=qg;have aA:Mv m H (upd H2 m.dg (.lst (gv++ [.ref t1]))):=⟨λb o h _ _ n3=>by rw [qh n3];exact S2 b o h,T3⟩
 generalize upd H2 m.dg (.lst (gv++ [.ref t1]))=H3 at t3 e3 T3 aw ax ay aA⊢;refine q4 _ _ ?_;exists 8,N5,q5
 exists 0,m.x,_,dx,fs,0,e3,T.qv,T.yd,f.done,(n:Int),(1),1,1,dx,fs,e3,aR;erw[yj (r:=⟨B,p,n+1,gs++ [.tup [.tup [.str u,d],an]],.tup [.str "asks",.tup [.str u,d]]⟩) e3 (f.set_done (k:=n+1)) (ir.mono T3) (ij.mono T3) aw ay ax (it.mono T3),M4,aB];have aa:=aA.trans aB;have aC:=iv.mono aa.tk;refine q5 _ _ ?_;show tSeq _ _ _ _ (upd H3 m.x (.ins a.qo dx (putF "done" (.int ((n+1:Nat):Int)) fs)));generalize upd H3 m.x (.ins a.qo dx (putF "done" (.int ((n+1:Nat):Int)) fs))=H4 at M4 aB aa aC⊢;erw[M4,Z,U,bg,bh,bo,bp,e4,f4,ah,aD,ac,aE,ak,aF];simp only at f4 ac ak aF;have ae:U.length<1000:=by have:=f4.len;omega
 exists 8,N6,q6
 exists 0,1,0;by_cases cn:an= .non
 ·subst cn;cases(show v= .non from iv)
  refine QK () ?_
  exists 5
  refine[two:λl hl=> ?_];have s5:=qf hl (.tup [.str "fault",.str "lack"])
  exists 0,m.x,_,Z,U,1,s5 _ _ e4,T.qv,T.qN,ae;erw[yj (r:=⟨B,p,n+1,gs++ [.tup [.tup [.str u,d],.non]],flt "lack"⟩) (s5 _ _ e4) (f4.set_there (u:= .ref l)) (ah.mono s5.tk) (aD.mono s5.tk) (ac.same s5) (s5 _ _ aE) (ak.mono s5.tk) (Is.new (ds:= [.str "fault",.str "lack"]) ⟨_,0,[1:yD ()],_,0,[1:yD ()],1⟩ hl),m1,m2]
  exact k _ (aa.trans ((Mv.of s5).trans m2)) m1
 ·have hT:isT an=true:=ha.resolve_left cn;have aT:v≠ .non:=X8 iv cn;have aU:ZR an=false:=by
   cases an with
   |non=>exact absurd rfl cn
   |_=>rfl
  refine Qq (uh aT) ?_;refine q6 _ _ ?_;exists 8,N7,q7;erw[ask_sh (hR.ok _ (kG ag af)) ad,z0,z1,aG,aV];have aW:b0 (jW m.rs p).2=z0:=by rw [aG];rfl
  erw[ac.put aV aC,kvs,aH,aX,t5];have aY:atI (m.rs.map rowD) (p-1)=u_ (rowD (jW m.rs p)):=by
   rw [show p-1=((p.toNat-1:Nat):Int) by omega]
   exact Qc (by rw [uI,row_at ag af];rfl)
  have aZ:m.db≠m.x:=Ym.ne e4 ac;have a1:m.dg≠m.db:=au.symm
  exists 0,0,m.x,_,Z,U,0,e4,T.qv,T.Qv,f4.boxes,0,m.x,_,Z,U,0,e4,T.qv,T.y7,f4.rows,0,m.x,_,Z,U,0,e4,T.qv,T.Qm,f4.place,_,0,1;refine xJ (d:=rowD (jW m.rs p)) ah aY λq5 a3=> ?_;refine .inr (.inl (xJ (i:=1) a3 (Qc (j:=1) rfl) λq6 aI=> ?_));rw [aG] at aI;refine .inr (.inl (xJ (i:=0) (d:= .str z0) aI (Qc (j:=0) rfl) λq7 a4=> ?_));erw[a4,rfl,_]
  exists m.db,0,aH;have e5:(upd H4 m.db (.dK kvs)) m.x=u_ (.ins a.qo Z U):=by rwa [qh aZ.symm]
  refine q7 _ _ ?_;exists 8,N8,q8
  exists 0,m.x,_,Z,U,0,e5,T.qv,T.Qm,f4.place,p,(1),1,1,Z,U,e5,ae;obtain⟨M6,a5⟩:=yj (r:=⟨setB B z0 an,p+1,n+1,gs++ [.tup [.tup [.str u,d],an]],.tup [.str "asks",.tup [.str u,d]]⟩) e5 (f4.set_place (q:=p+1)) (ah.mono t5) (aD.mono t5) aX (by rwa [qh a1]) (ak.mono t5) (aF.mono t5)
  have aJ:=aa.trans (Mv.trans ⟨λb o h _ a2 _=>by rwa [qh a2],t5⟩ a5)
  erw[M6,a6,aK,bq,bt,bu,bv,e6,f6,a7,a8,aL,a9,aM,ba];simp only at f6 aL aM ba;have aN:aK.length<1000:=by have:=f6.len;omega
  refine q8 _ _ ?_;exists 8,N9,q9
  exists 0,m.x,_,a6,aK,1,e6,T.qv,T.qN,aN;erw[yj (r:=⟨setB B z0 an,p+1,n+1,gs++ [.tup [.tup [.str u,d],an]],.non⟩) e6 (f6.set_there (u:= .non)) a7 a8 aL a9 aM rfl,M7,bb];have aO:=aJ.trans bb;erw[id M7,bc,bd,bw,bx,bA,bB,e7,f7,r7];refine q9 _ _ ?_
  exists 5
  refine⟨0,m.x,bc,bd,1,e7,f7.meth _ (),m,0,M7,1,kS ap hT,aP,hR,by show 1<=p+1;omega,by show p+1<=_;omega,by show n+1<=300;omega,λH8 be M8=>k H8 (aO.trans be) ?_⟩
  unfold ansS;rw [aU,A2 u5];simp only;rw [aW];exact M8
def PotQ (H:Hp)(p:o3):Prop:=∃x:Int,H p=u_ (.lst [.int x])/\0<=x
theorem PotQ.same (h:PotQ H p)(s:Same H H'):PotQ H' p:=by
 erw[h,x,e,r];exact[x:s _ _ e:r]
theorem PotQ.free {l:o3}(h:PotQ H p)(n:H l=U_):p≠l:=by
 erw[h,x,e,r];exact ql e n
theorem PotQ.tk (h:PotQ H p)(h':PotQ H' p)(k:Kept p H H'):Tk H H':=by
 erw[h,x,e,_];erw[h',U,O,_];exact k.tk e O
inductive sp_takQ (vs:List V) (H:Hp) (Q:VK) (E_:XK):Prop
 |mk (p:Addr) (many:Int) (_:vs= [.ref p,.int many]) (_:PotQ H p) (_:0<many) (_:many<1073741824) (_:∀(d:Int) (H':Hp),0<=d->d<many->PotQ H' p->Kept p H H'->Q (.int d) H')
inductive sp_potQ (vs:List V) (H:Hp) (Q:VK) (E_:XK):Prop
 |mk (c t:Int) (_:vs= [.int c,.int t]) (_:0<=t) (_:t<1000) (_:∀(p:Addr) (H':Hp),H p=U_->Same H H'->PotQ H' p->Q (.ref p) H')
theorem Xc (T:Tx K mg a):#[K,1,a.kA,a.WS,["pot","many"],sp_takQ]:=by
 exists 9,T.g_law_take,wB
 erw[h,p,many,rfl,[x,O,Z],hm,U,k];exists 3,%[#[qD,(2),wB.nd,#[qV,zN,#[qJ,QO,pv 0,qi],pv 1]],#[ps_asg,6,#[qV,op_fdiv,#[qJ,QO,pv 0,qi],pv 1],#[pg_sub,7,pv 0,qi,set_list,_],_,_,_]|#[qr,pv 2]]
 exists 0,p,_,_,0,1,SqL.of O,1,0,_,0,1,hm
 exists 0,p,_,_,0,1,SqL.of O,1,0,_,0,1,[hm:U],0,p,_,_,0,1,O,1
 exists 0;refine k _ _ (UV _ ()) (Ut _ hm) [x/many:qg:Int.ediv_nonneg Z ()] (Kept.upd _ _ _)
theorem ok_potQ (T:Tx K mg a):#[K,1,a.f_law_pot,a.d_law_pot,["cell","salt"],sp_potQ]:=by
 exists 9,T.g_law_pot,Yq
 erw[h,c,t,rfl,h0,h1,k];exists 3,%[#[qL,#[qp,op_ge,#[qz,call_abs,T.z_abs,boot_abs,#v[pv 0]],#[qV,op_pow,qi,qi],qB _],%[|#[qr,#[Qw,#v[#[qz,call_abs,T.z_abs,boot_abs,#v[pv 0]]]]]],qx],#[qD,(2),Yq.nd,#[qV,zN,#[qV,kn,#[qV,QY,#[qV,QY,#[qV,zN,pv 0,qi],#[qV,kn,qi,pv 1]],qi],qi],qi]],#[qD,(3),Yq.nd,qi],#[jf,#[yf,#v[qi]],#[qZ,(4),Yq.nd],%[#[qD,(2),Yq.nd,#[qV,zN,#[qV,QY,#[qV,QY,#[qV,kn,pv 2,pv 2],#[qV,kn,qi,pv 4]],qi],qi]]|#[qD,(3),Yq.nd,#[qV,QY,#[qV,kn,pv 3,qi],pv 2]]]]|#[qr,#[Qw,#v[pv 3]]]]
 exists 0,0,_,0,1,[():():()],_,0,1,0
 refine ite2 (λ_=> ?_) (λ_=> ?_)
 ·exists 5
  refine⟨0,0,(sml rfl),λp O=> ?_⟩;refine k p _ O (qf O _) [_:qg:?_];split<;>omega
 ·exists 5
  refine⟨0,_,0,1,(by show(0:Int)<2147483647;decide),0,_,0,1,(.inl [():()]),_,0,1,_,0,1,_,0,1,(.inr [():()]),_,0,1,(by show(0:Int)<2147483647;decide),(9),1,(),(),?_⟩
  let J1_:Nat->L2.St->Hp->Prop:=λi σ H'=>E3 λ(x:Int) (b:Int) (kv:om V)=>A5 (σ= [u_ (.int c),u_ (.int t),u_ (.int x),u_ (.int b),kv]) (0<=x) (x<2147483647) (0<=b) (H'=H)
  refine ja (n:=9) J1_ ⟨_,_,U_,1,UV _ (),Ut _ (),(),1⟩ ?_ ?_
  ·rintro i σ H' hi ⟨x,b,kv,rfl,Z,aa,hb,rfl⟩;have U:CMul x x:= .inl [():()]
   exists 5
   refine⟨0,0,_,0,1,U,0,_,0,1,(.inl [():()]),_,0,1,_,0,1,_,0,1,(by show(0:Int)<2147483629;decide),0,_,0,1,(.inr [():()]),0,_,0,1,?_⟩
   have q0:0<=(x*x+40692*(0+(i:Int))+3)%2147483629:=UV _ ()
   have q1:(x*x+40692*(0+(i:Int))+3)%2147483629<2147483629:=Ut _ ()
   exact⟨_,_,0,q0,Int.lt_trans q1 (),Int.add_nonneg (Int.mul_nonneg hb ()) q0,1⟩
  ·rintro σ H' ⟨x,b,kv,rfl,Z,aa,hb,rfl⟩;exact[0:(sml rfl):λp O=>k p _ O (qf O _) [_:qg:hb]]
def Nm4 (zs:oj Str):Prop:=1<=zs.length/\zs.length<=8/\∀z∈zs,nm z=v_/\z.length<=4
def Wd (n:Nat)(z:Str):Prop:=jT z=v_/\z.length<=n
theorem Kept.of (s:Same H H'):Kept p H H':=λb o e _=>s b o e
theorem PotQ.ne_strs {l:o3}(h:PotQ H p)(e:H l=u_ (.lst (zs.map V.str))):l≠p:=λz=>by
 erw[h,x,O,_];rw [<-z,e] at O;cases zs with
 |nil=>cases O
 |cons a r=>simp at O
inductive sp_word (vs:List V) (H:Hp) (Q:VK) (E_:XK):Prop
 |mk (p L:Addr) (zs:List Str) (_:vs= [.ref p,.ref L]) (_:PotQ H p) (_:H L=u_ (.lst (zs.map V.str))) (_:Nm4 zs) (_:∀(z:Str) (H':Hp),Wd 4 z->PotQ H' p->Kept p H H'->Q (.str z) H')
inductive sp_line (vs:List V) (H:Hp) (Q:VK) (E_:XK):Prop
 |mk (p L:Addr) (zs:List Str) (many k:Nat) (_:vs= [.ref p,.ref L,.int (many:Int),.int (k:Int)]) (_:PotQ H p) (_:H L=u_ (.lst (zs.map V.str))) (_:Nm4 zs) (_:1<=many) (_:many<=12) (_:k<=12) (_:∀(z:Str) (H':Hp),Wd 20 z->PotQ H' p->Kept p H H'->Q (.str z) H')
def FIV:oj Str:= ["","x","b1 g","yes","c/d"]
theorem fiv_ok:∀z∈FIV,Wd 4 z:=by
 have:∀z∈FIV,jT z=v_/\z.length<=4:=by decide+kernel
 exact this
theorem nm_all (h:nm z=v_):jT z=true:=okN_all (nm_okN h)
theorem wd_of (h:Nm4 zs):∀z∈zs++FIV,Wd 4 z:=λz O=>by
 rcases Af.mp O with h1|h1
 ·exact[nm_all (h.2.2 z h1).1:(h.2.2 z h1).2]
 ·exact fiv_ok z h1
theorem Wd.cat {m k:Nat}{y:Str}(h:Wd n x)(h':Wd m y)(e:n+m<=k):Wd k (x++y):=⟨okAll_app h.1 h'.1,by rw [app_len];have:=h.2;have:=h'.2;omega⟩
theorem join_ok:∀{l:oj Str},(∀z∈l,jT z=v_)->Wd ((l.map (·.length)).sum+l.length) (Vi " " l)
 | [],_=>[1:vf _]
 | [z],h=>⟨h z (by simp),by show z.length<=_;simp⟩
 |z::y::r,h=>by
  have O:=join_ok (l:=y::r) λx U=>h x (ud _ U);have Z:=h z (by simp)
  have e:=L2.Jn z y r;refine[?_:?_]
  ·show(Vi " " (z::y::r)).cps.toList.all QD=v_;rw [e,UT,vy,show z.cps.toList.all QD=v_ from Z,show(Vi " " (y::r)).cps.toList.all QD=v_ from O.1]
   decide
  ·rw [len_cps,e,uB,um,<-len_cps,<-len_cps];have h1:=O.2;simp![ui,UF,um] at h1⊢;omega
def WL:oj Str:= ["ask","ask","ask","has","names","text","text","copy","put","put","join","first","first","rest","size","cut","glue","like","none","rowed","go","say","fault","self"]
abbrev WTX:Str:="ask ask ask has names text text copy put put join first first rest size cut glue like none rowed"
theorem wl_spl:spl ((WTX++(" go say fault self":Str)).length+1) (WTX++(" go say fault self":Str))=WL:=by decide+kernel
theorem wl_ok:∀z∈WL,Wd 5 z:=by
 have:∀z∈WL,jT z=v_/\z.length<=5:=by decide+kernel
 exact this
theorem abc_ok:∀c∈("abcdh":Str).cps.toList,QD c=true:=by decide+kernel
theorem abc_at {d:Int}(h0:0<=d)(h1:d<5):∃c,atI ("abcdh":Str).cps.toList d=u_ c/\Wd 1 ⟨#[c]⟩:=by
 obtain⟨c,O⟩:=jD (xs:=("abcdh":Str).cps.toList) h0 (by show d<5;exact h1)
 refine⟨c,O,?_,uj _⟩;show [c].all QD=v_;rw [vy,abc_ok c (xD O)]
 rfl
theorem num_ok:∀k:Nat,k<13->jT (Vk (k:Int):Str)=v_/\(Vk (k:Int):Str).length<=2:=by decide+kernel
theorem ok_word (T:Tx K mg a):#[K,2,a.Wv,a.WN,["pot","names"],sp_word]:=by
 have qT:=#[Xc,T];exists 9,T.g_law_word,wp
 erw[h,p,L,zs,rfl,hP,hL,U,k];have hs:=uF;have aa:=U.1;have ac:=U.2.1;exists 3,%[#[qD,(2),wp.nd,#[qV,op_cat,pv 1,#[Qw,#v[qk,qk,qk,qk,qk]]]]|#[qr,#[qJ,QO,pv 2,#[qt,qT,hr.mono (),T.g_law_take,#v[pv 0,#[qz,qP,T.yK,uJ,#v[pv 2]]]]]]]
 exists 5
 refine[0:(sml rfl):λq hq=> ?_];have s1:Same H (upd H q (.lst [.str "",.str "x",.str "b1 g",.str "yes",.str "c/d"])):=qf hq _
 exists 5
 refine⟨L,q,_,0,1,s1 _ _ hL,qg,(by rw [uc];show _+5<=Vb;omega),λl hl=> ?_⟩
 have s2:=s1.trans (qf hl (.lst (zs.map V.str++ [.str "",.str "x",.str "b1 g",.str "yes",.str "c/d"])));have O:(upd (upd H q (.lst [.str "",.str "x",.str "b1 g",.str "yes",.str "c/d"])) l (.lst (zs.map V.str++ [.str "",.str "x",.str "b1 g",.str "yes",.str "c/d"]))) l=u_ (.lst ((zs++FIV).map V.str)):=by rw [qg,uu];rfl
 generalize upd (upd H q (.lst [.str "",.str "x",.str "b1 g",.str "yes",.str "c/d"])) l (.lst (zs.map V.str++ [.str "",.str "x",.str "b1 g",.str "yes",.str "c/d"]))=H2 at s2 O⊢;have P2:=hP.same s2;have l5:((zs++FIV).map V.str).length=zs.length+5:=by rw [uc,uB];rfl
 exists 5
 refine⟨0,0,0,l,0,.inl (SqL.of O),p,0,P2,by rw [l5];omega,by rw [l5];omega,λd H' d0 d1 P3 K3=> ?_⟩
 have Z:=K3 _ _ O (P2.ne_strs O);erw[jD (xs:=(zs++FIV).map V.str) d0 d1,v,hv];erw[Ag.mp (xD hv),z,hz,rfl];exact⟨l,_,d,0,1,SqL.of Z,hv,k z H' (wd_of U z hz) P3 ((Kept.of s2).trans K3)⟩
theorem sums {c:Nat}:∀{l:oj Str},(∀z∈l,z.length<=c)->(l.map (·.length)).sum<=l.length*c
 | [],_=>by simp
 |z::r,h=>by
  have:=sums λy O=>h y (ud _ O);have:=h z ug;simp![ui,UF,um,FY,rm];omega
theorem joins {K:o0}(hl:l.length<=3)(O:Wd 5 z)(h:∀z∈l,Wd 2 z)(k:∀y H',Wd 20 y->Same H H'->Q (.str y) H'):((z::l).map V.str).length<=Vb/\∀p,H p=U_->rJoin K (.str " ") [.ref p] (upd H p (.lst ((z::l).map V.str))) Q:=by
 have hs:=uF;have h1:=sums (c:=2) λz O=>(h z O).2;have h2:=O.2;refine⟨by rw [uc,um];omega,λp Z=>⟨" ",p,z::l,1,1,SqL.of qg,?_,?_⟩⟩
 ·have e:(" ":Str).length=1:=rfl;rw [e];simp![ui,UF,um];omega
 ·have:=join_ok (l:=z::l) λy U=>by
   rcases Ac.mp U with rfl|U
   ·exact O.1
   ·exact(h y U).1
  refine k _ _ [this.1:?_] (qf Z _);have h3:=this.2;simp![ui,UF,um] at h3;omega
theorem ok_line (T:Tx K mg a):#[K,3,a.WK,a.kg,["pot","names","many","k"],sp_line]:=by
 have qT:=#[Xc,T];have QV:=#[ok_word,T];exists 9,T.g_law_line,ym
 erw[h,p,L,zs,many,i,rfl,hP,hL,hN,ay,aA,hi,k];exists 3,%[#[qD,(4),ym.nd,qk],#[qD,(5),ym.nd,#[qJ,QO,#[YL,uU,Uk,Ul,mt_split,#[qV,Qd,pv 4,qk],#v[qk]],#[qt,qT,hr.mono (),T.g_law_take,#v[pv 0,qi]]]],#[ps_asg,6,#[Zm,["j","pot"],[0],lcsN (qj JD) ["pot","names","many","k","words","word","one","two","three","at"],#[yf,#v[qi]],(λ_ _ _ _ _ _=>#[qZ,(0),(show Vz (["j","pot"]:oj Str) by decide+kernel)]),(λ_ _ _ _ _ _=>#[qJ,ix_str,qk,#[qt,qT,hr.mono (),T.g_law_take,#v[pv 1,qi]]])],#[pg_lstU,6,rfl,Yp #[qZ,(6),ym.nd] (Yp #[qZ,(7),ym.nd] (Yp #[qZ,(8),ym.nd] kK)),_,_],_,_,_],#[qD,(9),ym.nd,#[qK,Q0,T.JU,Uh,#v[#[qz,#[call_min2,1,rfl],T.z_min,boot_min,#v[pv 2,#[qV,QY,#[qV,QY,pv 3,qi],#[qt,qT,hr.mono (),T.g_law_take,#v[pv 0,pv 2]]]]]]]],#[qL,#[qp,QF,pv 5,qk,qB _],%[|#[qr,#[qV,Qd,#[qV,Qd,#[qV,Qd,qk,pv 6],qk],#[qt,QV,hr.mono (),T.g_law_word,#v[pv 0,pv 1]]]]],qx],#[qL,#[qp,Qt,pv 5,#[Qw,#v[qk,qk]],#[w]],%[|#[qr,#[qV,Qd,#[qV,Qd,pv 5,qk],pv 6]]],qx],#[qL,#[qp,QF,pv 5,qk,qB _],%[|#[qr,pv 5]],qx],#[qL,#[qp,QF,pv 5,qk,qB _],%[|#[qr,#[qV,Qd,qk,pv 9]]],qx],#[qL,#[qp,Qt,pv 5,#[Qw,#v[qk,qk]],#[w]],%[|#[qr,#[YL,uU,U8,U9,Kf,qk,#v[#[Qw,#v[pv 5,pv 6,pv 9]]]]]],qx],#[qL,#[qp,QF,pv 5,qk,qB _],%[|#[qr,#[YL,uU,U8,U9,Kf,qk,#v[#[Qw,#v[pv 5,pv 6,pv 7,pv 9]]]]]],qx],#[qL,#[qp,Qt,pv 5,#[Qw,#v[qk,qk]],#[w]],%[|#[qr,#[YL,uU,U8,U9,Kf,qk,#v[#[Qw,#v[pv 5,pv 6,pv 7,pv 8]]]]]],qx]|#[qr,#[YL,uU,U8,U9,Kf,qk,#v[#[Qw,#v[pv 5,pv 6,pv 7]]]]]]
 exists 5
 refine⟨0,_,0,1,(),1,0,1,(),λq hq=> ?_⟩
 rw [show spl _ _=WL from wl_spl]
 have s1:Same H (upd H q (.lst (WL.map V.str))):=qf hq _;have eq:(upd H q (.lst (WL.map V.str))) q=u_ (.lst (WL.map V.str)):=qg;generalize upd H q (.lst (WL.map V.str))=H1 at s1 eq⊢;have P1:=hP.same s1
 exists 5
 refine⟨0,p,(24),1,P1,(),(),λd H2 d0 d1 P2 K2=> ?_⟩
 obtain⟨v,hv⟩:=jD (xs:=WL.map V.str) d0 (by show d<24;exact d1)
 erw[Ag.mp (xD hv),z,hz,rfl]
 exists q,_,d,0,1,SqL.of (K2 _ _ eq (P1.ne_strs eq)),hv;have Z:=wl_ok z hz;have ah:Kept p H H2:=(Kept.of s1).trans K2;clear K2 hv hz eq P1 s1 hq
 exists 5
 refine⟨(3),1,(),(),λD hD=> ?_⟩
 refine XG (lo:=0) (tl:= [u_ (.ref p)]) (λi ys H'=>∃bs:oj Str,ys=bs.map V.str/\bs.length=i/\(∀b∈bs,Wd 1 b)/\PotQ H' p/\(∀b o,H2 b=u_ o->b≠p->H' b=u_ o)) (yD ()) ⟨[],1,1,λb hb=>by simp at hb,P2.same (qf hD _),λb o e _=>qf hD _ _ _ e⟩ ?_ ?_
 ·rintro j ys H' hj ⟨bs,rfl,aa,U,P',K'⟩ ac O R hR
  exists 5
  refine⟨0,p,(5),1,P',(),(),λd3 H4 e0 e1 P4 K4=> ?_⟩
  erw[abc_at e0 e1,c,hc,am]
  exists "abcdh",d3,c,1,1,(),hc
  have nD:D≠p:=(P2.free hD).symm;refine hR _ H4 (K4 _ _ ac nD) ⟨bs++ [⟨#[c]⟩],by rw [uu];rfl,by rw [uB,aa];rfl,λb hb=> ?_,?_,λb o e np=> ?_⟩
  ·rcases Af.mp hb with h|h
   ·exact U b h
   ·rw [Us] at h;subst h;exact am
  ·erw[P4,x,e2,h2];exact⟨x,by rwa [qh nD.symm],h2⟩
  ·rw [qh (ql e hD)];exact K4 _ _ (K' b o e np) np
 ·rintro ys H' ⟨bs,rfl,aa,U,P',K'⟩ ac;obtain⟨x1,x2,x3,rfl⟩:∃x1 x2 x3,bs= [x1,x2,x3]:=by
   match bs,aa with
   | [x1,x2,x3],_=>exact⟨x1,x2,x3,1⟩
  have h1:Wd 2 x1:=⟨(U x1 (by simp)).1,by have:=(U x1 (by simp)).2;omega⟩
  have h2:Wd 2 x2:=⟨(U x2 (by simp)).1,by have:=(U x2 (by simp)).2;omega⟩
  have h3:Wd 2 x3:=⟨(U x3 (by simp)).1,by have:=(U x3 (by simp)).2;omega⟩
  have KD:Kept p H H':=λb o e np=>K' b o (ah b o e np) np
  exists D,0,SqL.of ac,1,_,0,_,0,_,0,1;clear K' ah P2 U aa ac
  exists 5
  refine⟨0,0,_,0,1,0,0,p,many,1,P',(),(),λd5 H5 f0 f1 P5 K5=>⟨_,0,1,_,0,?_⟩⟩
  obtain⟨j,ej,ao,ap⟩:∃j:Int,j=(if(i:Int)+5+d5<(many:Int) then(i:Int)+5+d5 else(many:Int))/\1<=j/\j<=12:=⟨0,by split<;>omega,by split<;>omega⟩
  rw [<-ej];obtain⟨jn,rfl⟩:∃n:Nat,j=(n:Int):=[j.toNat:()]
  have ak:=num_ok jn ()
  have h4:Wd 2 (Vk ((jn:Nat):Int):Str):=ak;have ae:((jn:Nat):Int).natAbs.log2<1920:=by have:=UI ((jn:Nat):Int).natAbs;omega
  exists 0,ae;have af:Kept p H H5:=KD.trans K5;have aq:=af _ _ hL (hP.ne_strs hL);have fin:∀(y:Str) (H':Hp),Wd 20 y->Same H5 H'->Q (.str y) H':=λy H' O s'=>k y H' O (P5.same s') (af.trans (Kept.of s'));have two:(2:Nat)<=sizeLine:=by decide
  have bl:Wd 1 " ":=[():uj _]
  have fz:∀{n m:Nat}{x y:Str},Wd n x->Wd m y->n+m<=100->x.length+y.length<=sizeLine:=λhx O h=>fits (by have:=hx.2;have:=O.2;omega)
  have tx:Wd 5 "text ":=[():uj _]
  have go:Wd 3 "go ":=[():uj _]
  clear ak ao ap ae ej
  exists 5
  refine⟨0,1,0,ite2 (λ_=> ?_) (λ_=> ?_)⟩
  ·have w1:=tx.cat h1 (k:=7) ()
   have w2:=w1.cat bl (k:=8) ()
   exists 5
   refine⟨0,_,0,1,fz tx h1 (),_,0,1,fz w1 bl (),0,0,p,L,zs,1,P5,aq,hN,λy H6 O P6 K6=> ?_⟩
   exact⟨_,0,1,fz w2 O (),k _ H6 (w2.cat O ()) P6 (af.trans K6)⟩
  exists 5
  refine[0:two:λl1 au=>⟨l1,0,.inl (SqL.of qg),1,1,0,?_⟩];have ad:=qf au (.lst ([.str "self",.str "say"]:oj V));refine ite2 (λ_=> ?_) (λ_=> ?_)
  ·have w1:=Z.cat bl (k:=6) ()
   exact⟨0,_,0,1,fz Z bl (),0,_,0,1,fz w1 h1 (),fin _ _ (w1.cat h1 ()) ad⟩
  exists 5
  refine⟨0,1,0,ite2 (λ_=> ?_) (λ_=> ?_)⟩
  ·exact⟨0,fin _ _ ⟨Z.1,by have:=Z.2;omega⟩ ad⟩
  exists 5
  refine⟨0,1,0,ite2 (λ_=> ?_) (λ_=> ?_)⟩
  ·exact⟨0,_,0,1,fz go h4 (),fin _ _ (go.cat h4 ()) ad⟩
  exists 5
  refine[0:two:λl2 aw=>⟨l2,0,.inl (SqL.of qg),1,1,0,?_⟩];have ag:=ad.trans (qf aw (.lst ([.str "none",.str "rowed"]:oj V)));refine ite2 (λ_=> ?_) (λ_=> ?_)
  ·exists 1,0,0,0;exact joins (l:= [x1,Vk ((jn:Nat):Int)]) (by simp) Z (λy O=>by simp at O;rcases O with rfl|rfl<;>assumption) λy H' O s'=>fin y H' O (ag.trans s')
  exists 5
  refine⟨0,1,0,ite2 (λ_=> ?_) (λ_=> ?_)⟩
  ·exists 1,0,0,0,0;exact joins (l:= [x1,x2,Vk ((jn:Nat):Int)]) (by simp) Z (λy O=>by simp at O;rcases O with rfl|rfl|rfl<;>assumption) λy H' O s'=>fin y H' O (ag.trans s')
  exists 5
  refine[0:two:λl3 ax=>⟨l3,0,.inl (SqL.of qg),1,1,0,?_⟩];have al:=ag.trans (qf ax (.lst ([.str "cut",.str "glue"]:oj V)));refine ite2 (λ_=> ?_) (λ_=> ?_)
  ·exists 1,0,0,0,0;exact joins (l:= [x1,x2,x3]) (by simp) Z (λy O=>by simp at O;rcases O with rfl|rfl|rfl<;>assumption) λy H' O s'=>fin y H' O (al.trans s')
  ·exists 1,0,0,0;exact joins (l:= [x1,x2]) (by simp) Z (λy O=>by simp at O;rcases O with rfl|rfl<;>assumption) λy H' O s'=>fin y H' O (al.trans s')
def TrOk (d:D):Prop:=isT d=v_/\lw d=v_/\sz d<=300
inductive sp_tre (vs:List V) (H:Hp) (Q:VK) (E_:XK):Prop
 |mk (p L:Addr) (zs:List Str) (_:vs= [.ref p,.ref L]) (_:PotQ H p) (_:H L=u_ (.lst (zs.map V.str))) (_:Nm4 zs) (_:∀(v:V) (d:D) (H':Hp),TrOk d->Is H' d v->PotQ H' p->Kept p H H'->Q v H')
theorem IsL.ofStrz {H:Hp}:∀{l:oj Str},(∀z∈l,z.length<=1000)->L2.IsL H (l.map D.str) (l.map V.str)
 | [],_=>rfl
 |z::r,h=>⟨_,0,[1:yD (h z ug)],IsL.ofStrz λy O=>h y (ud _ O)⟩
theorem szL_strs {n:Nat}:∀{l:oj Str},(∀z∈l,z.length<=n)->szL (l.map D.str)<=l.length*(n+1)
 | [],_=>by simp [szL]
 |z::r,h=>by
  have:=szL_strs (n:=n) λy O=>h y (ud (a:=y) z O);have:=h z ug;simp![ui,szL,sz,um,FY,rm];omega
theorem lw_strs:∀{l:oj Str},(∀z∈l,jT z=v_)->lwL (l.map D.str)=v_
 | [],_=>rfl
 |z::r,h=>by
  rw [ui,lwL,lw_strs λy O=>h y (ud _ O),vU];exact h z ug
theorem dp_strs:∀l:oj Str,dpL (l.map D.str)<=1
 | []=>by simp [dpL]
 |z::r=>by have:=dp_strs r;simp![ui,dpL,dp];omega
theorem good_strs:∀{l:oj Str},(∀z∈l,Wd 300 z)->goodL (l.map D.str)=v_
 | [],_=>rfl
 |z::r,h=>by
  rw [ui,goodL,good_strs λy O=>h y (ud _ O),vU];show Qy z=v_;unfold Qy;have:=h z ug;rw [uf this.2];exact this.1
theorem tr_str (h:Wd 20 z):TrOk (.str z):=⟨isT_short h.1 (by have:=h.2;omega),h.1,by simp![sz];have:=h.2;omega⟩
theorem tr_row (Z:l.length<=14)(h:∀z∈l,Wd 20 z):TrOk (.tup (l.map D.str)):=by
 have h1:=szL_strs λz O=>(h z O).2;have h2:=dp_strs l;have h3:=good_strs λz O=>(⟨(h z O).1,by have:=(h z O).2;omega⟩:Wd 300 z)
 have e:sz (.tup (l.map D.str))<=300:=by simp![sz];omega
 refine⟨?_,by simpa only [lw] using lw_strs λz O=>(h z O).1,e⟩
 have U:dp (.tup (l.map D.str))<=12:=by simp![dp];omega
 unfold isT;rw [uf (show sz (.tup (l.map D.str))<=600 by omega),uf U]
 simp![good];rw [h3,uc,uf (show l.length<=40 by omega)]
 rfl
theorem Kz {t:o3}(h:∀z∈l,Wd 20 z)(O:H t=U_):Is (upd H t (.tup (l.map V.str))) (.tup (l.map D.str)) (.ref t):=
 Is.new (IsL.ofStrz λz U=>by have:=(h z U).2;omega) O
def MKL (z:Str):oj Str:= ["row h","text b "++z,"ask c b","text a text d ","join a c","put h a","text a ask e d","put h a","text a say e","put h a","say h"]
theorem mkl_ok (h:Wd 4 z):∀y∈MKL z,Wd 20 y:=by
 have O:∀y∈(["row h","ask c b","text a text d ","join a c","put h a","text a ask e d","put h a","text a say e","put h a","say h"]:oj Str),jT y=v_/\y.length<=20:=by decide+kernel
 intro y U;rcases Ac.mp U with rfl|U
 ·exact O _ (by simp)
 ·rcases Ac.mp U with rfl|U
  ·exact Wd.cat (n:=7) (m:=4) [():uj _] h ()
  ·exact O y (ud _ U)
theorem ok_maker (T:Tx K mg a):#[K,2,a.wU,a.ZS,["pot","names"],sp_tre]:=by
 have qT:=#[Xc,T];exists 9,T.g_law_maker,YZ
 erw[h,p,L,zs,rfl,hP,hL,Z,k];have ac:=Z.1;have ad:=Z.2.1;exists 3,%[#[qD,(2),YZ.nd,#[qJ,QO,pv 1,#[qt,qT,hr.mono (),T.g_law_take,#v[pv 0,#[qz,qP,T.yK,uJ,#v[pv 1]]]]]],#[qD,(3),YZ.nd,#[Qw,#v[qk,#[qV,Qd,qk,pv 2],qk,qk,qk,qk]]],#[qD,(3),YZ.nd,#[qV,op_cat,pv 3,#[Qw,#v[qk,qk,qk,qk,qk]]]]|#[qr,#[qK,qG,T.Qk,vc,#v[pv 3]]]]
 have aa:=hP.ne_strs hL
 exists 5
 refine⟨0,0,0,L,0,.inl (SqL.of hL),p,0,hP,by rw [uc];omega,by rw [uc];omega,λd1 H1 a0 a1 P1 K1=> ?_⟩
 erw[jD (xs:=zs.map V.str) a0 a1,v,hv];erw[Ag.mp (xD hv),z,hz,rfl];have O:Wd 4 z:=[nm_all (Z.2.2 z hz).1:(Z.2.2 z hz).2]
 exists L,_,_,0,1,SqL.of (K1 _ _ hL aa),hv;have e7:("text b ":Str).length=7:=by decide+kernel
 exists 5
 refine⟨0,_,0,1,fits (by have:=O.2;omega),(sml rfl),λU h1=> ?_⟩
 have q1:=qf h1 (.lst (((MKL z).take 6).map V.str));have e1:(upd H1 U (.lst (((MKL z).take 6).map V.str))) U=u_ (.lst (((MKL z).take 6).map V.str)):=qg;show tSeq _ _ _ _ (upd H1 U (.lst (((MKL z).take 6).map V.str)));generalize upd H1 U (.lst (((MKL z).take 6).map V.str))=H2 at q1 e1⊢
 exists 5
 refine[0:(sml rfl):λl2 h2=> ?_];have q2:=qf h2 (.lst (((MKL z).drop 6).map V.str))
 exists 5
 refine⟨U,l2,_,0,1,q2 _ _ e1,qg,fits (by show 6+5<=16000000;decide),λl3 h3=> ?_⟩
 have q3:=q2.trans (qf h3 (.lst ((MKL z).map V.str)))
 exists 5
 refine⟨0,l3,(MKL z).map V.str,1,.inl [SqL.of qg:λt ht=> ?_]⟩;have q4:=qf ht (.tup ((MKL z).map V.str));exact k _ _ _ (tr_row (by show 11<=14;decide) (mkl_ok O)) (Kz (mkl_ok O) ht) ((P1.same q1).same (q3.trans q4)) (K1.trans (Kept.of (q1.trans (q3.trans q4))))
theorem ok_rule (T:Tx K mg a):#[K,4,a.ki,a.W0,["pot","names"],sp_tre]:=by
 have qT:=#[Xc,T];have QV:=#[ok_word,T];have O:=#[ok_line,T];exists 9,T.g_law_rule,jx
 erw[h,p,L,zs,rfl,hP,hL,hN,k];exists 3,%[#[qD,(2),jx.nd,#[qV,QY,qi,#[qt,qT,hr.mono (),T.g_law_take,#v[pv 0,qi]]]],#[qD,2,(3),4,jx.nd,rfl,GE rfl,#[qV,QY,pv 2,qi],_,_],#[qD,(4),jx.nd,#[Qw,#v[#[qV,Qd,qk,#[qt,QV,hr.mono (),T.g_law_word,#v[pv 0,pv 1]]],#[qV,Qd,qk,#[qt,QV,hr.mono (),T.g_law_word,#v[pv 0,pv 1]]],qk]]],#[qY,#[YL,uN,PySem.F.slot_list_extend,PySem.F.type_list_extend,mt_extend,pv 4,#v[#[Zm,["k","pot","names","many"],[0,1,3],lcsN (qj JL) ["pot","names","body","many","lines"],#[yf,#v[pv 2]],(λ_ _ _ _ _ _=>#[qZ,(0),(show Vz (["k","pot","names","many"]:oj Str) by decide+kernel)]),(λ_ _ _ _ _ _=>#[qt,O,hr.mono (),T.g_law_line,#v[pv 1,pv 2,pv 3,pv 0]])]]]]|#[qr,#[qK,qG,T.Qk,vc,#v[#[qV,op_cat,pv 4,#[Qw,#v[#[qV,Qd,qk,#[qJ,ix_str,qk,#[qt,qT,hr.mono (),T.g_law_take,#v[pv 0,qi]]]]]]]]]]]
 exists 5
 refine⟨0,p,(8),1,hP,(),(),λd1 H1 a0 a1 P1 K1=>⟨_,0,1,?_⟩⟩
 obtain⟨nb,ah,aG,aH⟩:∃nb:Nat,1+d1=(nb:Int)/\1<=nb/\nb<=8:=⟨(1+d1).toNat,(),(),()⟩
 have aa:=K1 _ _ hL (hP.ne_strs hL)
 try dsimp only
 rw [ah];clear ah a0 a1
 exists 0,_,0,1;have ta:Wd 7 "text a ":=[():uj _]
 have tb:Wd 7 "text b ":=[():uj _]
 have fz:∀{n m:Nat}{x y:Str},Wd n x->Wd m y->n+m<=100->x.length+y.length<=sizeLine:=λhx U h=>fits (by have:=hx.2;have:=U.2;omega)
 exists 5
 refine⟨0,0,p,L,zs,1,P1,aa,hN,λz1 H5 ak P5 K5=>⟨_,0,1,fz ta ak (),?_⟩⟩
 have ac:=K5 _ _ aa (P1.ne_strs aa)
 exists 5
 refine⟨0,0,p,L,zs,1,P5,ac,hN,λz2 H6 al P6 K6=>⟨_,0,1,fz tb al (),(sml rfl),λl hl=> ?_⟩⟩
 have au:=K6 _ _ ac (P5.ne_strs ac);have am:Kept p H H6:=(K1.trans K5).trans K6;have s7:=qf hl (.lst (["text a "++z1,"text b "++z2,"row h"].map V.str));have e7:(upd H6 l (.lst (["text a "++z1,"text b "++z2,"row h"].map V.str))) l=u_ (.lst (["text a "++z1,"text b "++z2,"row h"].map V.str)):=qg;have P7:=P6.same s7;have ad:=s7 _ _ au;have K7:Kept p H (upd H6 l (.lst (["text a "++z1,"text b "++z2,"row h"].map V.str))):=am.trans (Kept.of s7);have Z:∀y∈(["text a "++z1,"text b "++z2,"row h"]:oj Str),Wd 20 y:=λy U=>by
  simp![uC,uD,uO] at U;rcases U with rfl|rfl|rfl
  ·exact ta.cat ak ()
  ·exact tb.cat al ()
  ·exact[():()]
 show tSeq _ _ _ _ (upd H6 l (.lst (["text a "++z1,"text b "++z2,"row h"].map V.str)));generalize upd H6 l (.lst (["text a "++z1,"text b "++z2,"row h"].map V.str))=H7 at e7 P7 ad K7⊢;have aw:(["text a "++z1,"text b "++z2,"row h"]:oj Str).length=3:=rfl;generalize (["text a "++z1,"text b "++z2,"row h"]:oj Str)=th at e7 Z aw⊢
 exists 0,.inl [1:_:SqL.of e7]
 exists 5
 refine⟨0,nb,1,(),(),λD hD=> ?_⟩
 have nD:D≠p:=(P7.free hD).symm;have nl:l≠p:=P7.ne_strs e7;refine XG (lo:=0) (n:=nb) (tl:= [u_ (.ref p),u_ (.ref L),u_ (.int ((nb:Int)+4))]) (λi ys H'=>∃rs:oj Str,ys=rs.map V.str/\rs.length=i/\(∀r∈rs,Wd 20 r)/\PotQ H' p/\(∀b o,H7 b=u_ o->b≠p->H' b=u_ o)) (yD ()) ⟨[],1,1,λb hb=>by simp at hb,P7.same (qf hD _),λb o e _=>qf hD _ _ _ e⟩ ?_ ?_
 ·rintro j ys H' hj ⟨rs,rfl,ao,ae,P',K'⟩ af U R hR;have ax:=K' _ _ ad (P7.ne_strs ad)
  exists 5
  refine⟨0,0,0,0,p,L,zs,nb+4,j,?_,P',ax,hN,(),(),(),λr H8 ay P8 K8=> ?_⟩
  ·rw [show(0:Int)+(j:Int)=(j:Int) by omega,show((nb+4:Nat):Int)=(nb:Int)+4 by omega]
   rfl
  ·refine hR _ H8 (K8 _ _ af nD) ⟨rs++ [r],by rw [uu];rfl,by rw [uB,ao];rfl,λb hb=> ?_,?_,λb o e np=> ?_⟩
   ·rcases Af.mp hb with h|h
    ·exact ae b h
    ·rw [Us] at h;subst h;exact ay
   ·erw[P8,x,e2,h2];exact⟨x,by rwa [qh nD.symm],h2⟩
   ·rw [qh (ql e hD)];exact K8 _ _ (K' b o e np) np
 ·rintro ys H' ⟨rs,rfl,ao,ae,P',K'⟩ af;have e8:=K' _ _ e7 nl
  exists 5
  refine⟨l,D,_,0,1,e8,af,fits (by rw [uc,uc];omega),?_⟩
  have e9:(upd H' l (.lst (th.map V.str++rs.map V.str))) l=u_ (.lst ((th++rs).map V.str)):=by rw [qg,uu]
  have P9:PotQ (upd H' l (.lst (th.map V.str++rs.map V.str))) p:=by
   erw[P',x,e2,h2];exact⟨x,by rwa [qh nl.symm],h2⟩
  have K9:Kept p H (upd H' l (.lst (th.map V.str++rs.map V.str))):=λb o e np=>by
   rw [qh (ql (am b o e np) hl)];exact K' b o (K7 b o e np) np
  generalize upd H' l (.lst (th.map V.str++rs.map V.str))=H9 at e9 P9 K9⊢
  exists 5
  refine⟨0,0,p,(5),1,P9,(),(),λd9 aI g0 g1 aA ap=> ?_⟩
  erw[abc_at g0 g1,c9,hc,aB];have aC:=ap _ _ e9 nl
  exists 5
  refine⟨"abcdh",d9,c9,1,1,(),hc,_,0,1,(by show("say ":Str).length+1<=Vb;decide+kernel),(sml rfl),λq1 aD=> ?_⟩
  have aq:=qf aD (.lst [.str ("say "++⟨#[c9]⟩)]);have hw:Wd 20 ("say "++⟨#[c9]⟩:Str):=Wd.cat (n:=4) (m:=1) [():uj _] aB ()
  exists 5
  refine⟨l,q1,_,0,1,aq _ _ aC,qg,fits (by rw [uc,uB];show _+1<=_;omega),λq2 aE=> ?_⟩
  have aF:=aq.trans (qf aE (.lst ((th++rs).map V.str++ [.str ("say "++⟨#[c9]⟩)])))
  exists 5
  refine[q2:0:.inl [SqL.of qg:λt ht=> ?_]];have ag:=aF.trans (qf ht (.tup ((th++rs).map V.str++ [.str ("say "++⟨#[c9]⟩)])));have all:∀y∈th++rs++ [("say "++⟨#[c9]⟩:Str)],Wd 20 y:=λy U=>by
   rcases Af.mp U with U|U
   ·rcases Af.mp U with U|U
    ·exact Z y U
    ·exact ae y U
   ·cases Ae.mp U;exact hw
  have em:(th++rs).map V.str++ [.str ("say "++⟨#[c9]⟩)]=(th++rs++ [("say "++⟨#[c9]⟩:Str)]).map V.str:=by rw [uu (l₁:=th++rs)];rfl
  rw [em] at ag ht⊢;refine k _ _ _ (tr_row (l:=th++rs++ [("say "++⟨#[c9]⟩:Str)]) (by simp![uB,vq];omega) all) (Kz all ht) (aA.same ag) ((K9.trans ap).trans (Kept.of ag))
theorem tr_three {y:Str}(O:Wd 20 z)(U:Wd 20 y):TrOk (.tup [.tup [.str z,.tup []],.str y]):=by
 have h1:=O.2;have h2:=U.2;have Z:Qy z=true:=by unfold Qy;rw [uf (show z.length<=300 by omega)];exact O.1
 have g2:Qy y=true:=by unfold Qy;rw [uf (show y.length<=300 by omega)];exact U.1
 have e:sz (.tup [.tup [.str z,.tup []],.str y])<=300:=by simp![sz,szL];omega
 refine⟨?_,by simp [lw,lwL,O.1,U.1],e⟩
 unfold isT;rw [uf (show sz (.tup [.tup [.str z,.tup []],.str y])<=600 by omega),uf (show dp (.tup [.tup [.str z,.tup []],.str y])<=12 by simp![dp,dpL];omega)]
 simp [good,goodL,Z,g2]
inductive sp_srcd (vs:List V) (H:Hp) (Q:VK) (E_:XK):Prop
 |mk (p L:Addr) (zs:List Str) (_:vs= [.ref p,.ref L]) (_:PotQ H p) (_:H L=u_ (.lst (zs.map V.str))) (_:Nm4 zs) (_:∀(v:V) (d:D) (H':Hp),Zq d->Is H' d v->PotQ H' p->Kept p H H'->Q v H')
theorem tr_src {k:Str}{d:D}(O:k="leaf"∨k="rule")(h:TrOk d):Zq (.tup [.str k,d]):=src_leaf O h.1 h.2.1 h.2.2
theorem src_row {k:Str}{d:D}(O:k="leaf"∨k="rule")(h:TrOk d)(Z:Is H d v)(q:∀t H',Same H H'->Is H' (.tup [.str k,d]) (.ref t)->Zq (.tup [.str k,d])->Q (.ref t) H'): [V.str k,v].length<=Vb/\∀t,H t=U_->Q (.ref t) (upd H t (.tup [.str k,v])):=by
 refine[sml rfl:λt U=>q t _ (qf U _) (Is.new (ds:= [.str k,d]) ⟨_,0,[1:?_],_,0,Z,1⟩ U) (tr_src O h)];rcases O with rfl|rfl<;>decide+kernel
theorem ok_leaf (T:Tx K mg a):#[K,5,a.kz,a.WW,["pot","names"],sp_tre]:=by
 have qT:=#[Xc,T];have QV:=#[ok_word,T];have X5:=#[ok_rule,T];exists 9,T.g_law_leaf,ZW
 erw[h,p,L,zs,rfl,hP,hL,hN,k];have aa:∀{z:Str},Wd 4 z->Wd 20 z:=λh=>⟨h.1,by have:=h.2;omega⟩
 exists 3,%[#[qD,(2),ZW.nd,#[qt,qT,hr.mono (),T.g_law_take,#v[pv 0,qi]]],#[qL,#[qp,op_lt,pv 2,qi,qB _],%[|#[qr,#[qt,QV,hr.mono (),T.g_law_word,#v[pv 0,pv 1]]]],qx],#[qL,#[qp,QF,pv 2,qi,qB _],%[|#[qr,#[qK,qG,T.Qk,vc,#v[#[Zm,["k","pot","names"],[0,1],lcsN (qj JF) ["pot","names","kind"],#[yf,#v[#[qt,qT,hr.mono (),T.g_law_take,#v[pv 0,qi]]]],(λ_ _ _ _ _ _=>#[qZ,(0),(show Vz (["k","pot","names"]:oj Str) by decide+kernel)]),(λ_ _ _ _ _ _=>#[qt,QV,hr.mono (),T.g_law_word,#v[pv 1,pv 2]])]]]]],qx],#[qL,#[qp,QF,pv 2,qi,qB _],%[|#[qr,#[qE,#v[#[qE,#v[#[qt,QV,hr.mono (),T.g_law_word,#v[pv 0,pv 1]],#[qE,qc]]],#[qt,QV,hr.mono (),T.g_law_word,#v[pv 0,pv 1]]]]]],qx],#[qL,#[qp,QF,pv 2,qi,qB _],%[|#[qr,#[qt,X5,hr.mono (),T.g_law_rule,#v[pv 0,pv 1]]]],qx]|#[qr,#[qE,#v[#[qV,Qd,qk,#[qt,QV,hr.mono (),T.g_law_word,#v[pv 0,pv 1]]],qk,qk]]]]
 exists 5
 refine⟨0,p,(6),1,hP,(),(),λd1 H1 a0 a1 P1 K1=> ?_⟩
 have O:=K1 _ _ hL (hP.ne_strs hL)
 exists 5
 refine⟨0,_,0,1,0,ite2 (λ_=> ?_) (λ_=> ?_)⟩
 ·exact⟨0,0,p,L,zs,1,P1,O,hN,λz H2 hz U Z=>k _ _ H2 (tr_str (aa hz)) ⟨1,fits (by have:=hz.2;omega)⟩ U (K1.trans Z)⟩
 exists 5
 refine⟨0,1,0,ite2 (λ_=> ?_) (λ_=> ?_)⟩
 ·exists 5
  refine⟨0,p,(4),1,P1,(),(),λd2 H2 b0 b1 U Z=> ?_⟩
  have ac:=Z _ _ O (P1.ne_strs O);obtain⟨n,rfl,hn⟩:∃n:Nat,d2=(n:Int)/\n<4:=[d2.toNat:():()]
  exists 5
  refine⟨n,1,(),(),λD hD=> ?_⟩
  have nD:D≠p:=(U.free hD).symm;refine XG (lo:=0) (n:=n) (tl:= [u_ (.ref p),u_ (.ref L)]) (λi ys H'=>∃rs:oj Str,ys=rs.map V.str/\rs.length=i/\(∀r∈rs,Wd 20 r)/\PotQ H' p/\(∀b o,H2 b=u_ o->b≠p->H' b=u_ o)) (yD ()) ⟨[],1,1,λb hb=>by simp at hb,U.same (qf hD _),λb o e _=>qf hD _ _ _ e⟩ ?_ ?_
  ·rintro j ys H' hj ⟨rs,rfl,af,ad,P',K'⟩ ae hy R hR;have ao:=K' _ _ ac (U.ne_strs ac)
   exists 5
   refine⟨0,0,p,L,zs,1,P',ao,hN,λr H8 ap P8 K8=> ?_⟩;refine hR _ H8 (K8 _ _ ae nD) ⟨rs++ [r],by rw [uu];rfl,by rw [uB,af];rfl,λb hb=> ?_,?_,λb o e np=> ?_⟩
   ·rcases Af.mp hb with h|h
    ·exact ad b h
    ·rw [Us] at h;subst h;exact aa ap
   ·erw[P8,x,e2,h2];exact⟨x,by rwa [qh nD.symm],h2⟩
   ·rw [qh (ql e hD)];exact K8 _ _ (K' b o e np) np
  ·rintro ys H' ⟨rs,rfl,af,ad,P',K'⟩ ae
   exists 5
   refine[D:0:.inl [SqL.of ae:λt ht=> ?_]];have s3:=qf ht (.tup (rs.map V.str));exact k _ _ _ (tr_row () ad) (Kz ad ht) (P'.same s3) (λb o e np=>s3 _ _ (K' b o ((K1.trans Z) b o e np) np))
 exists 5
 refine⟨0,1,0,ite2 (λ_=> ?_) (λ_=> ?_)⟩
 ·exists 5
  refine⟨0,0,p,L,zs,1,P1,O,hN,λz1 H2 ag U Z=>[vf _:λt0 ah=>[sml rfl:λt1 ak=> ?_]]⟩;have ac:=Z _ _ O (P1.ne_strs O);have s0:=qf ah (.tup ([]:oj V));have s1:=s0.trans (qf ak (.tup [.str z1,.ref t0]));have i0:Is (upd H2 t0 (.tup [])) (.tup []) (.ref t0):=Is.new (ds:= []) rfl ah;have i1:Is (upd (upd H2 t0 (.tup [])) t1 (.tup [.str z1,.ref t0])) (.tup [.str z1,.tup []]) (.ref t1):=Is.new (ds:= [.str z1,.tup []]) ⟨_,0,⟨1,fits (by have:=ag.2;omega)⟩,_,0,i0,1⟩ ak
  generalize upd (upd H2 t0 (.tup [])) t1 (.tup [.str z1,.ref t0])=H3 at s1 i1⊢;have P3:=U.same s1
  exists 5
  refine⟨0,0,p,L,zs,1,P3,s1 _ _ ac,hN,λz2 H4 al P4 K4=>[sml rfl:λt2 am=> ?_]⟩;have s2:=qf am (.tup [.ref t1,.str z2]);refine k _ _ _ (tr_three (aa ag) (aa al)) (Is.new (ds:= [.tup [.str z1,.tup []],.str z2]) ⟨_,0,i1.mono (P3.tk P4 K4),_,0,⟨1,fits (by have:=al.2;omega)⟩,1⟩ am) (P4.same s2) ((((K1.trans Z).trans (Kept.of s1)).trans K4).trans (Kept.of s2))
 exists 5
 refine⟨0,1,0,ite2 (λ_=> ?_) (λ_=> ?_)⟩
 ·exact⟨0,0,p,L,zs,1,P1,O,hN,λv d H2 hd hv U Z=>k v d H2 hd hv U (K1.trans Z)⟩
 ·have ta:Wd 7 "text a ":=[():uj _]
  exists 5
  refine⟨0,0,p,L,zs,1,P1,O,hN,λz H2 hz U Z=>⟨_,0,1,fits (by have:=hz.2;have:=ta.2;omega),sml rfl,λt ht=> ?_⟩⟩
  have all:∀y∈(["text a "++z,"ask b a","say b"]:oj Str),Wd 20 y:=λy hy=>by
   simp![uC,uD,uO] at hy;rcases hy with rfl|rfl|rfl
   ·exact ta.cat hz ()
   ·exact[():()]
   ·exact[():()]
  have s2:=qf ht (.tup ((["text a "++z,"ask b a","say b"]:oj Str).map V.str));exact k _ _ _ (tr_row (by show 3<=14;decide) all) (Kz all ht) (U.same s2) ((K1.trans Z).trans (Kept.of s2))
theorem ok_srcd (T:Tx K mg a):#[K,6,a.Ze,a.Zd,["pot","names"],sp_srcd]:=by
 have qT:=#[Xc,T];have W3:=#[ok_leaf,T];have X5:=#[ok_rule,T];have O:=#[ok_maker,T];exists 9,T.g_law_source,XC
 erw[h,p,L,zs,rfl,hP,hL,hN,k];have ad:=hN.1;have ae:=hN.2.1;exists 3,%[#[qD,(2),XC.nd,#[qt,qT,hr.mono (),T.g_law_take,#v[pv 0,qi]]],#[qL,#[qp,op_lt,pv 2,qi,qB _],%[|#[qr,#[qE,#v[qk,#[qt,W3,hr.mono (),T.g_law_leaf,#v[pv 0,pv 1]]]]]],qx],#[qL,#[qp,op_lt,pv 2,qi,qB _],%[|#[qr,#[qE,#v[qk,#[qt,X5,hr.mono (),T.g_law_rule,#v[pv 0,pv 1]]]]]],qx],#[qL,#[qp,QF,pv 2,qi,qB _],%[|#[qr,#[qE,#v[qk,#[qt,O,hr.mono (),T.g_law_maker,#v[pv 0,pv 1]]]]]],qx],@qL _ _ _ _ _ _ _ _ #[pw_and,7,#[qp,QF,pv 2,qi,qB _],#[pw_and1,4,#[qp,QF,#[qt,qT,hr.mono (),T.g_law_take,#v[pv 0,qi]],qi,qB _]]].pt %[|#[qr,#[qE,#v[qk,#[qt,W3,hr.mono (),T.g_law_leaf,#v[pv 0,pv 1]]]]]] qx|#[qr,#[qE,#v[qk,#[qJ,QO,pv 1,#[qt,qT,hr.mono (),T.g_law_take,#v[pv 0,#[qz,qP,T.yK,uJ,#v[pv 1]]]]]]]]]
 exists 5
 refine⟨0,p,(10),1,hP,(),(),λd1 H1 a0 a1 P1 K1=> ?_⟩
 have Z:=K1 _ _ hL (hP.ne_strs hL);have fin:∀{H3 H2:Hp}{kk:Str}{d:D}{v:V},PotQ H3 p->Kept p H H3->kk="leaf"∨kk="rule"->TrOk d->Is H2 d v->PotQ H2 p->Kept p H3 H2-> [V.str kk,v].length<=Vb/\∀t,H2 t=U_->Q (.ref t) (upd H2 t (.tup [.str kk,v])):=λ{H3 H2 kk d v} P3 K3 hk hd U P2 K2=>
  src_row hk hd U λt H4 s4 i4 o4=>k _ _ H4 o4 i4 (P2.same s4) ((K3.trans K2).trans (Kept.of s4))
 exists 5
 refine⟨0,_,0,1,0,ite2 (λ_=> ?_) (λ_=> ?_)⟩
 ·exact⟨0,0,p,L,zs,1,P1,Z,hN,λv d H2 hd U P2 K2=>fin P1 K1 (.inl rfl) hd U P2 K2⟩
 exists 5
 refine⟨0,_,0,1,0,ite2 (λ_=> ?_) (λ_=> ?_)⟩
 ·exact⟨0,0,p,L,zs,1,P1,Z,hN,λv d H2 hd U P2 K2=>fin P1 K1 (.inr rfl) hd U P2 K2⟩
 exists 5
 refine⟨0,1,0,ite2 (λ_=> ?_) (λ_=> ?_)⟩
 ·exact⟨0,0,p,L,zs,1,P1,Z,hN,λv d H2 hd U P2 K2=>fin P1 K1 (.inr rfl) hd U P2 K2⟩
 show tSeq _ _ _ _ H1;refine qF λN0 n0=>n0 _ _ ?_;exists 8,BB,bb;have made:∀{H3:Hp},PotQ H3 p->Kept p H H3->BB [u_ (V.ref p),u_ (V.ref L),u_ (V.int d1)] H3:=by
  intro H3 P3 K3;refine bb _ _ ?_;have aa:=K3 _ _ hL (hP.ne_strs hL)
  exists 5
  refine⟨0,0,0,L,0,.inl (SqL.of aa),p,0,P3,by rw [uc];omega,by rw [uc];omega,λd2 H4 b0 b1 P4 K4=> ?_⟩
  erw[jD (xs:=zs.map V.str) b0 b1,v,U];erw[Ag.mp (xD U),z,hz,rfl]
  exists 5
  refine⟨L,_,_,0,1,SqL.of (K4 _ _ aa (P3.ne_strs aa)),U,sml rfl,λt ht=> ?_⟩;have s4:=qf ht (.tup [.str "made",.str z]);have ac:=hN.2.2 z hz;exact k _ _ _ (src_made ac.1) (Is.new (ds:= [.str "made",.str z]) ⟨_,0,[1:()],_,0,[1:fits ()],1⟩ ht) (P4.same s4) ((K3.trans K4).trans (Kept.of s4))
 exists 5
 refine⟨0,1,0,ite2 (λ_=> ?_) (λ_=> ?_)⟩
 ·exists 5
  refine⟨0,p,(4),1,P1,(),(),λd2 H2 b0 b1 P2 K2=>[1:0:ite2 (λ_=> ?_) (λ_=> ?_)]⟩
  ·exact⟨0,0,p,L,zs,1,P2,K2 _ _ Z (P1.ne_strs Z),hN,λv d H3 hd U P3 K3=>fin P2 (K1.trans K2) (.inr rfl) hd U P3 K3⟩
  ·exact made P2 (K1.trans K2)
 ·exact iteF (made P1 K1)
theorem SqL.keepK {K:o0}{a:o3}(e:∀o,H a=u_ o->H' a=u_ o)(h:SqL K H a xs):SqL K H' a xs:=by
 rcases h with(h|⟨o,h⟩)|h
 ·exact .inl (.inl (e _ h))
 ·exact .inl (.inr [o:e _ h])
 ·exact .inr h
def N8:oj Str:= ["a","b1","c/d","e.f","g","h9","k","m/n"]
theorem n8_ok:∀z∈N8,nm z=v_/\z.length<=4:=by decide+kernel
theorem n8_nd:N8.Nodup:=by decide+kernel
theorem n8_take (h1:1<=n)(h2:n<=8):Nm4 (N8.take n)/\(N8.take n).length=n:=by
 have e:(N8.take n).length=n:=by rw [U2];show min n 8=n;omega
 exact[[():():λz O=>n8_ok z (HQ O)]:e]
theorem cut_take {vs:oj V}:cutV vs U_ (u_ (n:Int))=vs.take n:=by
 unfold cutV;rw [HT.sIx_none,HT.sIx_nat,V2,Nat.sub_zero];rcases H_ n vs.length with h|h
 ·rw [Hy h]
 ·rw [tW h,uT (uj _),uT h]
theorem ints_of {ns:oj Int}:∀{ys:oj V},(∀y∈ys,y∈ns.map V.int)->∃O:oj Int,ys=O.map V.int
 | [],_=>[[]:1]
 |y::r,h=>by
  erw[Ag.mp (h y ug),i,_,e];obtain⟨O,U⟩:=ints_of (ys:=r) λz Z=>h z (ud _ Z);exact⟨i::O,by rw [U,<-e];rfl⟩
inductive sp_lprs (K:PySem.W.Frag) (vs:List V) (H:Hp) (Q:VK) (E_:XK):Prop
 |mk (q:Addr) (ns:List Int) (_:vs= [.ref q]) (_:SqL K H q (ns.map V.int)) (_:∀(L:Addr) (ps:List (Str×D)) (us:List V) (H':Hp),H L=U_->Same H H'->H' L=u_ (.lst us)->L2.IsL H' (ps.map prD) us->PrOk ps->ps.length<=8->(∀p∈ps,p.1∈N8)->Q (.ref L) H')
theorem sq_sm {K:o0}(h:SqL K H q xs)(s:Same H H'):SqL K H' q xs:=SqL.keepK (λo e=>s _ _ e) h
theorem ok_lsrcs (T:Tx K mg a):#[K,7,a.XO,a.XI,["script"],(sp_lprs K)]:=by
 have jE:=#[ok_cell,T];have wG:=#[ok_potQ,T];have j9:=#[ok_srcd,T];exists 9,T.g_law_sources,ye
 erw[h,q,ns,rfl,hq,k];have hs:=uF;exists 3,%[#[qD,(1),ye.nd,#[YR,sl_list,#[Qw,#v[qk,qk,qk,qk,qk,qk,qk,qk]],zw,#[YJ,#[qV,QY,qi,#[qV,zN,#[qt,jE,hr.mono (),T.g_law_cell_at,#v[pv 0,qi]],qi]]]]],#[qD,(2),ye.nd,#[Qw,qc]],#[jf,#[yf,#v[#[qz,qP,T.yK,uJ,#v[pv 1]]]],#[qZ,(3),ye.nd],%[#[qD,(4),ye.nd,#[qz,#[ZO,1,rfl],T.z_sum,Te,#v[#[pe_stepL,10,(),pv 0,#[YJ,#[qV,QY,qi,pv 3]],_]]]]|#[qL,#[qp,op_ne,#[qV,zN,pv 4,qi],qi,qB _],%[|#[qY,#[YL,uN,vd,ve,yb,pv 2,#v[#[qE,#v[#[qJ,QO,pv 1,pv 3],#[qt,j9,hr.mono (),T.g_law_source,#v[#[qt,wG,hr.mono (),T.g_law_pot,#v[pv 4,pv 3]],pv 1]]]]]]]],qx]]]|#[qr,pv 2]]
 exists 5
 refine[sml rfl:λl0 au=> ?_];have s0:=qf au (.lst (N8.map V.str));have e0:(upd H l0 (.lst (N8.map V.str))) l0=u_ (.lst (N8.map V.str)):=qg;show wH _ (upd H l0 (.lst (N8.map V.str))) _;generalize upd H l0 (.lst (N8.map V.str))=H0 at s0 e0⊢
 exists 5
 refine⟨0,q,ns,(0),1,(),(sq_sm hq s0),λc=>⟨_,0,1,(by show(0:Int)<8;decide),_,0,1,?_⟩⟩
 have m1:0<=c%8/\c%8<8:=[UV _ ():Ut _ ()]
 obtain⟨n,hn,aw,ax⟩:∃n:Nat,1+c%8=(n:Int)/\1<=n/\n<=8:=⟨(1+c%8).toNat,(),(),()⟩
 erw[n8_take aw ax,hN,ay]
 try dsimp only
 rw [hn]
 exists 5
 refine⟨0,l0,0,SqL.of e0,λl hl=> ?_⟩;rw [cut_take,<-Fk];have ah:(N8.take n).Nodup:=pk (Fi _ _) n8_nd;have ak:∀z∈N8.take n,z∈N8:=λz hz=>HQ hz;generalize N8.take n=zs at hN ay ah ak⊢;have s1:=s0.trans (qf hl (.lst (zs.map V.str)));have e1:(upd H0 l (.lst (zs.map V.str))) l=u_ (.lst (zs.map V.str)):=qg;generalize upd H0 l (.lst (zs.map V.str))=H1 at s1 e1⊢
 exists 5
 refine[vf _:λL hL=> ?_];have s2:=s1.trans (qf hL (.lst ([]:oj V)));have al:H L=none:=s1.free hL;have aA:l≠L:=ql e1 hL;have e2:=qf hL (.lst ([]:oj V)) _ _ e1;have eL:(upd H1 L (.lst [])) L=u_ (.lst []):=qg;generalize upd H1 L (.lst [])=H2 at s2 e2 eL⊢
 exists 0,l,0,.inl (SqL.of e2),zs.length,by rw [uc],(),()
 refine ja (n:=zs.length) (λi σ H'=>E4 λ(ps:oj (Str×D)) (us:oj V) (x3:om V) (x4:om V)=>A7 (σ= [u_ (.ref q),u_ (.ref l),u_ (.ref L),x3,x4]) (Same H H') (H' l=u_ (.lst (zs.map V.str))) (H' L=u_ (.lst us)) (L2.IsL H' (ps.map prD) us) ((ps.map (·.1)).Sublist (zs.take i)) (∀p∈ps,Zq p.2)) ⟨[],[],U_,U_,1,s2,e2,eL,1,List.nil_sublist _,λp hp=>by simp at hp⟩ ?_ ?_
 ·rintro i σ H' hi ⟨ps,us,x3,x4,rfl,sm,el,af,ac,O,U⟩;have aH:ps.length<=8:=by
   have h1:=O.length_le;rw [uc,U2] at h1;omega
  have aB:=ac.length;rw [uc] at aB
  exists 5
  refine⟨0,0,_,0,1,0,q,0,(sq_sm hq sm),λys y0 _ am aC=> ?_⟩;erw[ints_of am,ms,rfl];have sy:=qf aC (.lst (ms.map V.int));have ey:(upd H' y0 (.lst (ms.map V.int))) y0=u_ (.lst (ms.map V.int)):=qg;have Z:=sy _ _ af;have aa:=sy _ _ el;generalize upd H' y0 (.lst (ms.map V.int))=H3 at sy ey Z aa⊢;have ae:=ac.mono sy.tk;have ao:=sm.trans sy
  exists y0,ms,1,SqL.of ey
  exists 5
  refine⟨0,_,0,1,(by show(0:Int)<11;decide),1,0,ite2 (λ_=> ?_) (λ_=> ?_)⟩
  ·have ag:i<zs.length:=hi
   exists 5
   refine⟨0,.inl [1:_:SqL.of Z],0,0,l,_,_,V.str zs[i],1,1,SqL.of aa,?_,?_⟩
   ·rw [show(0:Int)+(i:Int)=((i:Nat):Int) by omega]
    exact Qc (by rw [uI,ur ag];rfl)
   exists 5
   refine⟨0,0,_,0,(),(),λp H4 hp s4 P4=> ?_⟩
   have aD:=s4 _ _ aa;have aI:=s4 _ _ Z;have aJ:L≠p:=ql Z hp
   exists 5
   refine⟨0,p,l,zs,1,P4,aD,hN,λv d H5 hd hv P5 K5=>[sml rfl:λt ht=> ?_]⟩;have aE:Same H3 H5:=K5.same s4 hp;have st:=qf ht (.tup [.str zs[i],v]);have hz:=hN.2.2 _ (vi ag);have ap:Is (upd H5 t (.tup [.str zs[i],v])) (prD (zs[i],d)) (.ref t):=Is.new (ds:= [.str zs[i],d]) ⟨_,0,[1:fits ()],_,0,hv,1⟩ ht
   generalize upd H5 t (.tup [.str zs[i],v])=H6 at st ap⊢;have ad:=aE.trans st;have aq:=ad _ _ Z
   exists L,us,0,1,aq,()
   have tk:Tk H6 (upd H6 L (.lst (us++ [.ref t]))):=Tk.updL aq
   exists 5
   refine⟨ps++ [(zs[i],d)],us++ [.ref t],_,0,λb o e=> ?_,?_,qg,?_,?_,λp' aF=> ?_⟩
   ·rw [qh (ql e al)];exact ad _ _ (ao _ _ e)
   ·rw [qh aA];exact ad _ _ aa
   ·rw [uu];exact((ae.mono ad.tk).mono tk).append (L2.IsL.one (ap.mono tk))
   ·rw [take1 ag,uu];exact O.append (pw _)
   ·rcases Af.mp aF with h|h
    ·exact U p' h
    ·cases Ae.mp h;exact hd
  ·exact⟨ps,us,_,0,ao,aa,Z,ae,O.trans (by rw [take1 hi];exact List.sublist_append_left _ _),U⟩
 ·rintro σ H' ⟨ps,us,x3,x4,rfl,sm,el,af,ac,O,U⟩;rw [V6] at O;have aG:=O.length_le;rw [uc] at aG;exact[0:k L ps us H' al sm af ac [[λz hz=>(hN.2.2 z (O.mem hz)).1:ah.sublist O]:U] () (λp hp=>ak _ (O.mem (Ag.mpr [p:hp:1])))]
inductive sp_badl (vs:List V) (H:Hp) (Q:VK) (E_:XK):Prop
 |mk (v:V) (d:D) (_:vs= [v]) (_:Is H d v) (_:∀(u:V) (H':Hp),Same H H'->((Q7 d).isSome=v_->u= .non)->((Q7 d).isSome=V9->u≠ .non)->Q u H')
inductive sp_isrule (vs:List V) (H:Hp) (Q:VK) (E_:XK):Prop
 |mk (v:V) (d:D) (_:vs= [v]) (_:Is H d v) (_:∀H',Same H H'->Q (.bl (Q7 d).isSome) H')
theorem ok_badl (T:Tx K mg a)(C:Fx K w mg g a):#[K,4,a.kt,a.W6,["tree"],sp_badl]:=by
 have Z:=#[ok_read,T,C];exists 9,T.g_bad_line,sc_bad_line
 erw[h,v,d,rfl,hv,k];exists 3,%[|#[qr,#[qJ,qI,#[qt,Z,hr.mono (),T.g_read_lines,#v[pv 0]],qi]]]
 exists 5
 refine⟨0,v,d,1,hv,λu H' x y s' U hu=> ?_⟩;erw[hu,p,ws,rfl,hp,w1,r1,rfl,h1,w2,r2,rfl,h2,h3];cases(show r2= [] from h3)
 exists 5
 refine⟨p,_,_,0,1,SqT.of hp,1,k _ H' s' (λe=> ?_) (λe=> ?_)⟩
 ·erw[XF e,rs,O];erw[U.1 rs O,_,rfl];exact h2
 ·have hn:Q7 d=none:=by
   cases hh:Q7 d with
   |none=>rfl
   |some rs=>rw [hh] at e;cases e
  erw[U.2 hn,i,rfl];intro z;rw [z] at h2;cases(show V.non= .int i from h2)
theorem ok_isrule (T:Tx K mg a)(C:Fx K w mg g a):#[K,5,a.f_is_rule,a.d_is_rule,["value"],sp_isrule]:=by
 have O:=#[ok_badl,T,C];exists 9,T.g_is_rule,sc_is_rule,U
 erw[h,v,d,rfl,Z,k];exists 3,%[|#[qr,#[yJ,Yb,#[qt,O,U.mono (),T.g_bad_line,#v[pv 0]],qW,qB _]]]
 exists 5
 refine⟨0,v,d,1,Z,λu H' s' h1 h2=>[1:?_]⟩;have e:decide (u=V.non)=(Q7 d).isSome:=by
  cases c:(Q7 d).isSome with
  |true=>rw [h1 c];rfl
  |false=>exact uh (h2 c)
 have:=k H' s';rwa [<-e] at this
end
theorem rows_of {n:Nat}:∀{ds:oj D},(∀d∈ds,(Qo n d).isSome=v_)->(ds.filterMap (Qo n)).length=ds.length/\ds=(ds.filterMap (Qo n)).map (λr=>D.str (Ya r))/\∀r∈ds.filterMap (Qo n),jS n 300 r
 | [],_=>[1:1:λr h=>nomatch h]
 |d::ds,h=>by
  erw[XF (h d ug),r,O];obtain⟨h1,h2,h3⟩:=rows_of (n:=n) (ds:=ds) λx U=>h x (ud _ U);have hd:d= .str (Ya r)/\jS n 300 r:=by
   cases d with
   |str z=>
    obtain⟨Z,a2⟩:=rowOf_ok (show ZG n z=u_ r from O)
    exact⟨by rw [a2],Z⟩
   |non=>cases O
   |bl b=>cases O
   |int i=>cases O
   |lst=>cases O
   |dct=>cases O
   |tup xs=>cases O
  rw [Ud O];refine⟨by rw [um,um,h1],by rw [ui,<-h2,hd.1],λx U=> ?_⟩
  rcases Ac.mp U with rfl|U
  ·exact hd.2
  ·exact h3 x U
variable {rs:oj Rw}
theorem read_rule {d:D}(h:Q7 d=u_ rs):d=xk rs/\ya rs:=by
 cases d with
 |tup ds=>
  rw [Xz] at h;split at h
  ·rename_i O
   simp![uw,vj] at O;erw[O,[[c1,c2],U],Z];cases h;erw[rows_of (List.all_eq_true.mp U),h1,h2,h3];have e:D.tup ds=xk (ds.filterMap (Qo ds.length)):=by
    unfold xk;rw [<-h2]
   refine⟨e,⟨(),(),?_,by rwa [<-e]⟩⟩
   rwa [h1]
  ·cases h
 |non=>cases h
 |bl b=>cases h
 |int i=>cases h
 |str z=>cases h
 |lst=>cases h
 |dct=>cases h
def GMT:oj Str:= ["begin","look","wanted","take","full"]
structure GFl (fs:oj (Str×V))(nv ov mv av rv ev:V):Prop where
 Zc:fs.lookup ("name":Str)=u_ nv
 wj:fs.lookup ("order":Str)=u_ ov
 Ys:fs.lookup ("made_by":Str)=u_ mv
 yT:fs.lookup ("rule_asks":Str)=u_ av
 Qs:fs.lookup ("rule_run":Str)=u_ rv
 f_end:fs.lookup ("end":Str)=u_ ev
 meth:∀m∈GMT,fs.lookup m=U_
 len:fs.length<=20
section
variable {fs:oj (Str×V)}{nv ov mv av rv ev:V}
variable {u:V}
theorem GFl.set_made_by (h:GFl fs nv ov mv av rv ev):GFl (putF "made_by" u fs) nv ov u av rv ev:=by
 refine⟨?_,?_,?_,?_,?_,?_,λm hm=> ?_,by rw [YX h.Ys];exact h.len⟩
 all_goals rw [qH]
 all_goals first|rw [Aa rfl]|(rw [A2 ()];first|exact h.Zc|exact h.wj|exact h.Ys|exact h.yT|exact h.Qs|exact h.f_end)|(rw [A2 (λe=>by subst e;revert hm;decide+kernel)];exact h.meth m hm)
theorem GFl.set_rule_asks (h:GFl fs nv ov mv av rv ev):GFl (putF "rule_asks" u fs) nv ov mv u rv ev:=by
 refine⟨?_,?_,?_,?_,?_,?_,λm hm=> ?_,by rw [YX h.yT];exact h.len⟩
 all_goals rw [qH]
 all_goals first|rw [Aa rfl]|(rw [A2 ()];first|exact h.Zc|exact h.wj|exact h.Ys|exact h.yT|exact h.Qs|exact h.f_end)|(rw [A2 (λe=>by subst e;revert hm;decide+kernel)];exact h.meth m hm)
theorem GFl.set_rule_run (h:GFl fs nv ov mv av rv ev):GFl (putF "rule_run" u fs) nv ov mv av u ev:=by
 refine⟨?_,?_,?_,?_,?_,?_,λm hm=> ?_,by rw [YX h.Qs];exact h.len⟩
 all_goals rw [qH]
 all_goals first|rw [Aa rfl]|(rw [A2 ()];first|exact h.Zc|exact h.wj|exact h.Ys|exact h.yT|exact h.Qs|exact h.f_end)|(rw [A2 (λe=>by subst e;revert hm;decide+kernel)];exact h.meth m hm)
theorem GFl.set_end (h:GFl fs nv ov mv av rv ev):GFl (putF "end" u fs) nv ov mv av rv u:=by
 refine⟨?_,?_,?_,?_,?_,?_,λm hm=> ?_,by rw [YX h.f_end];exact h.len⟩
 all_goals rw [qH]
 all_goals first|rw [Aa rfl]|(rw [A2 ()];first|exact h.Zc|exact h.wj|exact h.Ys|exact h.yT|exact h.Qs|exact h.f_end)|(rw [A2 (λe=>by subst e;revert hm;decide+kernel)];exact h.meth m hm)
end
structure Gc where
 (x o:o3)
 n:Str
structure Gs where
 mb:D
 ra:oj D
 run:om (Mc×Rn)
 en:D
def Wp (CM:o3)(H:Hp)(x:o3)(rv:V):om (Mc×Rn)->Prop
 |none=>rv= .non
 |some (m,r)=>rv= .ref m.x/\m.x≠x/\Yc CM H m r
def GoAt (C CM:o3)(H:Hp)(g:Gc)(s:Gs):Prop:=
 ∃(dx:o3) (fs:oj (Str×V)) (mv av rv ev:V),H g.x=u_ (.ins C dx fs)/\GFl fs (.str g.n) (.ref g.o) mv av rv ev/\Is H s.mb mv/\Is H (.tup s.ra) av/\Wp CM H g.x rv s.run/\Is H s.en ev
variable {CM:o3}
theorem Wp.same {x:o3}{o:om (Mc×Rn)}(h:Wp CM H x rv o)(s:Same H H'):Wp CM H' x rv o:=by
 cases o with
 |none=>exact h
 |some p=>exact[h.1:h.2.1:h.2.2.same s]
theorem GoAt.same {g:Gc}{s:Gs}(h:GoAt C CM H g s)(sm:Same H H'):GoAt C CM H' g s:=by
 erw[h,dx,fs,mv,av,rv,ev,e,f,i,j,k,l];exact⟨dx,fs,mv,av,rv,ev,sm _ _ e,f,i.mono sm.tk,j.mono sm.tk,k.same sm,l.mono sm.tk⟩
theorem Yc.put {m:Mc}{r:Rn}{x:o3}{fs:oj (Str×V)}(h:Yc CM H m r)(e:H x=u_ (.ins C dx fs))(n:m.x≠x):Yc CM (upd H x (.ins C dx fs')) m r:=by
 erw[h,U,Z,rv,ru,tv,gv,e1,f,i,j,b,O,gl,t];have tk:Tk H (upd H x (.ins C dx fs')):=Tk.updI e;have n1:m.db≠x:=Ym.ne e b;have n2:m.dg≠x:=λz=>by rw [z,e] at O;cases O
 exact⟨U,Z,rv,ru,tv,gv,by rwa [qh n],f,i.mono tk,j.mono tk,b.move tk (qh n1),by rwa [qh n2],gl.mono tk,t.mono tk⟩
theorem Wp.put {x:o3}{fs:oj (Str×V)}{o:om (Mc×Rn)}(h:Wp CM H x rv o)(e:H x=u_ (.ins C dx fs)):Wp CM (upd H x (.ins C dx fs')) x rv o:=by
 cases o with
 |none=>exact h
 |some p=>exact[h.1:h.2.1:h.2.2.put e h.2.1]
structure Gv (g:Gc)(H H':Hp):Prop where
 kept:∀b o,H b=u_ o->b≠g.x->H' b=u_ o
 tk:Tk H H'
theorem W5 {g:Gc}{fs:oj (Str×V)}{mv av ev:V}{s:Gs}(e:H g.x=u_ (.ins C dx fs))(f:GFl fs' (.str g.n) (.ref g.o) mv av rv ev)(i:Is H s.mb mv)(j:Is H (.tup s.ra) av)(k:Wp CM H g.x rv s.run)(l:Is H s.en ev):
  GoAt C CM (upd H g.x (.ins C dx fs')) g s/\Gv g H (upd H g.x (.ins C dx fs')):=by
 have tk:Tk H (upd H g.x (.ins C dx fs')):=Tk.updI e;exact⟨⟨dx,fs',mv,av,rv,ev,qg,f,i.mono tk,j.mono tk,k.put e,l.mono tk⟩,⟨λb o h n=>by rwa [qh n],tk⟩⟩
def lookS (s:Gs)(r:Rn):Gs:=if QS r.th=v_ then s else{s with en:=r.th}
inductive sp_look (C CM:Addr) (vs:List V) (H:Hp) (Q:VK) (E_:XK):Prop
 |mk (g:Gc) (s:Gs) (m:Mc) (r:Rn) (_:vs= [.ref g.x]) (_:GoAt C CM H g s) (_:s.run=u_ (m,r)) (_:Th r.th) (_:∀H',Gv g H H'->GoAt C CM H' g (lookS s r)->Q .non H')
section
variable {P:o9}{w:og}{K:o0}{mg:Str->om o6}{base:o8}{a:Ad}{g:Ga}
theorem ok_look (T:Tx K mg a):#[K,2,a.zQ,a.zK,["self"],(sp_look a.qM a.qo)]:=by
 have Qp:=#[ok_wait,T];have jI:=#[ok_now,T];exists 9,T.g_Going_look,Kg
 erw[h,g,st,m,r,rfl,hG,O,aa,k];exists 3,%[|#[qL,#[QE,#[Qr,#[yg,#[qO,5,pv 0,rfl],T.qv,T.g_Machine_is_waiting,Qp]]],%[|#[Qg,#[yg,#[qO,5,pv 0,rfl],T.qv,T.g_Machine_now,jI]]],qx]]
 erw[id hG,dx,fs,mv,av,rv,ev,e,f,i,j,hR,l];rw [O] at hR;erw[hR,rfl,hn,Z];erw[id Z,dm,fm,ac,ru,tv,gv,em,U,i1,i2,i3,i4,i5,i6]
 exists 0,g.x,_,dx,fs,0,e,T.qQ,T.qX,f.Qs,m.x,dm,fm,1,em,U.meth _ (),m,r,1,Z,aa,0
 cases c:QS r.th with
 |true=>
  refine iteF (k H [λ_ _ h _=>h:Tk.refl H] ?_);unfold lookS;rwa [Aa c]
 |false=>
  refine iteT ?_
  exists 5
  refine⟨0,g.x,_,dx,fs,0,e,T.qQ,T.qX,f.Qs,m.x,dm,fm,1,em,U.meth _ (),m,r,1,Z,λv hv=> ?_⟩
  exists 5
  refine⟨0,g.x,_,dx,fs,1,e,T.qQ,T.QX,by have:=f.len;omega,?_⟩
  have hS:lookS st r={st with en:=r.th}:=by
   unfold lookS;rw [c];exact A2 u5
  obtain⟨m1,m2⟩:=W5 (CM:=a.qo) (s:={st with en:=r.th}) e (f.set_end (u:=v)) i j (by rw [O];exact[1:hn:Z]) hv
  refine k _ m2 ?_;rw [hS];exact m1
inductive sp_runner (CM:Addr) (vs:List V) (H:Hp) (Q:VK) (E_:XK):Prop
 |mk (o:Addr) (v:V) (rs:List Rw) (own:Str) (_:vs= [.ref o,v,.str own]) (_:Is H (xk rs) v) (_:ya rs) (_:nm own=v_) (_:∀(mc:Mc) (H':Hp),Same H H'->H mc.x=U_->H mc.db=U_->H mc.dg=U_->mc.rs=rs->mc.own=own->Yc CM H' mc (runS rs own [] 300 B0 1 0)->Q (.ref mc.x) H')
theorem ok_runner (T:Tx K mg a)(C:Fx K w mg g a):#[K,8,a.YK,a.Yw,["self","rule","own"],(sp_runner a.qo)]:=by
 have Wq:=#[ok_minit,T,C];exists 9,T.g_PlainOrder_runner,JO
 erw[h,o,v,rs,own,rfl,hv,hR,hn,k];have hl:=w9 hn;have hI:∀H:Hp,Is H (.str own) (.str own):=λH=>yl ()
 exists 3,%[|#[qr,#[zt,T.M_Machine,Wq,hr.mono (),T.m_Machine,T.g_Machine_init,passF,#v[pv 1,pv 2]]]]
 exists 5
 refine[0:0:λx dx Z aa nx=> ?_];have U:Same H (upd (upd H dx (.own x)) x (.ins a.qo dx [])):=λb o h=>by rwa [qh (ql h Z),qh (ql h aa)]
 exists 5
 refine⟨x,dx,v,.str own,xk rs,.str own,1,qg,hv.mono U.tk,hI _,λz=> ?_,λ_ z=> ?_,λO af e1 ac e2 ag ah H' db dg kept ad ae hM=>[1:?_]⟩
 ·rw [hR.read] at z;cases z
 ·have:isNm (.str own)=true:=hn;rw [this] at z;cases z
 ·have e3:O=rs:=by
   have h1:=hR.read;rw [e1,ac.read] at h1;exact uK h1
  cases e2;subst e3;exact k ⟨x,db,dg,O,own⟩ H' (λb o h=>kept b o (U b o h) (ql h Z)) Z (U.free ad) (U.free ae) rfl rfl hM
def R0 (rs:oj Rw)(n:Str):Rn:=runS rs n [] 300 B0 1 0
structure BegOk (H:Hp)(g:Gc)(d:D)(s s':Gs):Prop where
 mb:s'.mb=s.mb
 ra:s'.ra=s.ra
 lack:d= .non->s'.run=U_/\s'.en=flt "lack"
 rule:d≠ .non->Q7 d=U_->s'.run=U_/\s'.en=flt "rule"
 go:∀rs,Q7 d=u_ rs->∃mc:Mc,H mc.x=U_/\H mc.db=U_/\H mc.dg=U_/\mc.rs=rs/\mc.own=g.n/\s'.run=u_ (mc,R0 rs g.n)/\s'.en=if QS (R0 rs g.n).th=v_ then s.en else(R0 rs g.n).th
inductive sp_begin (C CM CO:Addr) (vs:List V) (H:Hp) (Q:VK) (E_:XK):Prop
 |mk (g:Gc) (s:Gs) (v:V) (d:D) (_:vs= [.ref g.x,v]) (_:GoAt C CM H g s) (_:s.run=U_) (_:nm g.n=v_) (_:Is H d v) (_:(∃dx fs,H g.o=u_ (.ins CO dx fs)/\fs.lookup ("runner":Str)=U_)) (_:∀H' s',Gv g H H'->GoAt C CM H' g s'->BegOk H g d s s'->Q .non H')
theorem R0_ok {n:Str}(h:ya rs):RnOk rs (R0 rs n):=runS_ok h 300 B0 1 0 [] rfl B0_tr () (by have:=h.n0;omega) ⟨1,by simp [dpL],uj _⟩
theorem R0_th {n:Str}(h:ya rs):Th (R0 rs n).th:= .inr (R0_ok h).two
theorem ok_begin (T:Tx K mg a)(C:Fx K w mg g a):#[K,9,a.XT,a.XU,["self","rule"],(sp_begin a.qM a.qo a.qm)]:=by
 have O:=#[ok_isrule,T,C];have xV:=#[ok_runner,T,C];have j8:=#[ok_look,T];exists 9,T.g_Going_begin,Wl
 erw[h,g,st,v,d,rfl,hG,U,hn,hv,[ad,ae,ho,af],k];have hs:=uF;erw[id hG,dx,fs,mv,av,rv,ev,e,f,i,j,hR,l];rw [U] at hR;exists 3,%[|#[qL,#[qp,Yb,pv 1,qW,qB _],%[|#[Qg,#[qE,#v[qk,qk]]]],%[|#[qL,#[QE,#[Qr,#[qt,O,hr.mono (),T.g_is_rule,#v[pv 1]]]],%[|#[Qg,#[qE,#v[qk,qk]]]],%[#[Qg,#[Qi,#[qO,5,pv 0,rfl],T.qw,T.g_PlainOrder_runner,xV,#v[pv 1,#[qO,5,pv 0,rfl]]]]|#[qY,#[yg,pv 0,T.qQ,T.g_Going_look,j8]]]]]]]
 exists 0,1,0;have fl:∀(z:Str) (H:Hp) (l:o3),z.length<=100->H l=U_->Is (upd H l (.tup [.str "fault",.str z])) (flt z) (.ref l):=λz H l hz hl=>Is.new (ds:= [.str "fault",.str z]) ⟨_,0,yl (),_,0,yl (),1⟩ hl
 have aa:fs.length<1000:=by have:=f.len;omega
 have put:∀(z:Str) (t:o3) (H':Hp),z.length<=100->Same H H'->H' t=U_->((d= .non->z="lack")/\(d≠ .non->z="rule"/\Q7 d=U_))->Q .non (upd (upd H' t (.tup [.str "fault",.str z])) g.x (.ins a.qM dx (putF "end" (.ref t) fs))):=λz t H' hz s' ht hd=>by
  have s1:=s'.trans (qf ht (.tup [.str "fault",.str z]));obtain⟨m1,m2⟩:=W5 (CM:=a.qo) (g:=g) (s:={st with en:=flt z}) (s1 _ _ e) (f.set_end (u:= .ref t)) (i.mono s1.tk) (j.mono s1.tk) (by show Wp _ _ _ _ st.run;rwa [U]) (fl z H' t hz ht)
  refine k _ _ [λb o h n=>m2.kept b o (s1 b o h) n:s1.tk.trans m2.tk] m1 ⟨1,1,λh=>⟨U,by rw [hd.1 h]⟩,λh _=>⟨U,by rw [(hd.2 h).1]⟩,λrs h=> ?_⟩
  by_cases c:d= .non
  ·rw [c] at h;cases h
  ·rw [(hd.2 c).2] at h;cases h
 by_cases c:d= .non
 ·subst c;cases(show v= .non from hv)
  refine iteB (uf rfl) [(sml rfl):λt ht=> ?_]
  exists 0,g.x,_,dx,fs,1,(qf ht _) _ _ e,T.qQ,T.QX,aa;exact put "lack" t H () (Same.refl _) ht [λ_=>rfl:λh=>absurd rfl h]
 ·refine iteN (uh (X8 hv c)) ?_
  exists 5
  refine⟨0,v,d,1,hv,λH1 s1=>[0:?_]⟩;cases hd:Q7 d with
  |none=>
   refine iteT [(sml rfl):λt ht=> ?_]
   exists 0,g.x,_,dx,fs,1,(qf ht _) _ _ (s1 _ _ e),T.qQ,T.QX,aa;exact put "rule" t H1 () s1 ht [λh=>absurd h c:λ_=>[1:hd]]
  |some rs=>
   refine iteF ?_;erw[read_rule hd,ed,ac];have e1:=s1 _ _ e
   exists 5
   refine⟨0,g.x,_,dx,fs,0,e1,T.qQ,T.Xo,f.wj,g.o,ad,ae,1,s1 _ _ ho,af,0,0,g.x,_,dx,fs,0,e1,T.qQ,T.y9,f.Zc,g.o,v,rs,g.n,1,by rw [<-ed];exact hv.mono s1.tk,ac,hn,λmc H2 s2 nx nb ng ag ah hM=> ?_⟩
   have e2:=s2 _ _ e1;have Z:=s1.trans s2
   exists 0,g.x,_,dx,fs,1,e2,T.qQ,T.qX,aa;have ak:mc.x≠g.x:=(ql e1 nx).symm;erw[W5 (C:=a.qM) (CM:=a.qo) (g:=g) (s:={st with run:=u_ (mc,R0 rs g.n)}) e2 (f.set_rule_run (u:= .ref mc.x)) (i.mono Z.tk) (j.mono Z.tk) [1:ak:hM] (l.mono Z.tk),m1,m2]
   erw[id m1,al,am,_,_,_,_,e3,f3,_]
   exists 5
   refine⟨0,g.x,al,am,1,e3,f3.meth _ (),g,_,mc,R0 rs g.n,1,m1,1,R0_th ac,λH3 v3 G3=>k H3 _ [λb o h n=>v3.kept b o (m2.kept b o (Z b o h) n) n:(Z.tk.trans m2.tk).trans v3.tk] G3 ?_⟩
   unfold lookS
   exists 5
   refine⟨by split<;>rfl,by split<;>rfl,λh=>absurd h c,(λ_ h=>by rw [hd] at h;cases h),λao h=> ?_⟩
   rw [hd] at h;cases h
   exists 5
   refine⟨mc,s1.free nx,s1.free nb,s1.free ng,ag,ah,by split<;>rfl,?_⟩
   split<;>rfl
inductive XA (C CM:Addr) (vs:List V) (H:Hp) (Q:VK) (E_:XK):Prop
 |mk (g:Gc) (s:Gs) (_:vs= [.ref g.x]) (_:GoAt C CM H g s) (_:((s.run=U_/\∃z,s.mb= .str z/\∀v H',Same H H'->Is H' (.tup [.str "rule",.str z]) v->Q v H')∨∃mc r d,s.run=u_ (mc,r)/\r.th= .tup [.str "asks",d]/\∀v,Is H d v->Q v H))
def runG:om (Mc×Rn)->oj D
 |none=> []
 |some (_,r)=>r.gs
def fullD (s:Gs):D:= .tup [.tup (s.ra++runG s.run),s.en]
inductive sp_full (C CM:Addr) (vs:List V) (H:Hp) (Q:VK) (E_:XK):Prop
 |mk (g:Gc) (s:Gs) (_:vs= [.ref g.x]) (_:GoAt C CM H g s) (_:s.ra.length+(runG s.run).length<=1000) (_:∀v H',Same H H'->Is H' (fullD s) v->Q v H')
variable {v u:V}{Q:VK}
theorem catG_is {K:o0}{xs ys:oj D}(O:Is H (.tup xs) v)(U:Is H (.tup ys) u)(hl:xs.length+ys.length<=1000)(k:∀p H',Same H H'->Is H' (.tup (xs++ys)) p->Q p H'):rCatG K v u H Q:=by
 erw[id O,a,vs,rfl,ha,Z];erw[id U,b,us,rfl,hb,ib];have la:=Z.length;have lb:=ib.length;have hs:=uF;refine⟨a,b,vs,us,1,1,SqT.of ha,SqT.of hb,(),λe=> ?_,λ_ e=> ?_,λ_ _ p hp=> ?_⟩
 ·have:xs= []:=List.length_eq_zero_iff.mp (by rw [e] at la;simpa using la.symm)
  rw [this] at k;exact k _ H (Same.refl _) U
 ·have:ys= []:=List.length_eq_zero_iff.mp (by rw [e] at lb;simpa using lb.symm)
  rw [this,uW] at k;exact k _ H (Same.refl _) O
 ·have n:=qf hp (.tup (vs++us));exact k _ _ n ⟨p,0,qg,(Z.append ib).mono n.tk⟩
theorem ok_wanted (T:Tx K mg a):#[K,2,a.J1,a.J6,["self"],(XA a.qM a.qo)]:=by
 have jI:=#[ok_now,T];exists 9,T.g_Going_wanted,wg
 erw[h,g,st,rfl,hG,h];have hs:=uF;erw[id hG,dx,fs,mv,av,rv,ev,e,f,i,j,U,l];exists 3,%[#[qL,#[qp,Yb,#[qO,5,pv 0,rfl],qW,qB _],%[|#[qr,#[qE,#v[qk,#[qO,5,pv 0,rfl]]]]],qx]|#[qr,#[qJ,J3,#[yg,#[qO,5,pv 0,rfl],T.qv,T.g_Machine_now,jI],qi]]]
 exists 0,g.x,_,dx,fs,0,e,T.qQ,T.qX,f.Qs,1,0;rcases h with⟨O,z,hz,k⟩|⟨mc,r,d,O,Z,k⟩
 ·rw [O] at U;cases(show rv= .non from U)
  rw [hz] at i;obtain⟨rfl,hl⟩:=(show mv= .str z/\z.length<=Vb from i)
  refine iteB (uf rfl) ⟨0,g.x,_,dx,fs,0,e,T.qQ,T.yF,f.Ys,(sml rfl),λt ht=> ?_⟩;exact k _ _ (qf ht _) (Is.new ⟨_,0,yl (),_,0,[1:hl],1⟩ ht)
 ·rw [O] at U;erw[U,rfl,hn,hM];erw[id hM,dm,fm,ac,ru,tv,gv,em,aa,i1,i2,i3,i4,i5,i6];refine iteN (uh (λz=>by cases z)) ?_
  exists 5
  refine⟨0,g.x,_,dx,fs,0,e,T.qQ,T.qX,f.Qs,mc.x,dm,fm,1,em,aa.meth _ (),mc,r,1,hM,λv hv=> ?_⟩
  rw [Z] at hv;exact .inr (.inl (xJ (i:=1) (d:=d) hv (Qc (j:=1) rfl) λq hq=>k q hq))
theorem ok_full (T:Tx K mg a):#[K,2,a.zO,a.zP,["self"],(sp_full a.qM a.qo)]:=by
 have wu:=#[ok_asks,T];exists 9,T.g_Going_full,XR
 erw[h,g,st,rfl,hG,hl,k];have hs:=uF;erw[id hG,dx,fs,mv,av,rv,ev,e,f,i,j,Z,l];exists 3,%[#[qD,(1),XR.nd,#[Q2,#[qp,Yb,#[qO,5,pv 0,rfl],qW,qB _],#[qE,qc],#[yg,#[qO,5,pv 0,rfl],T.qv,T.g_Machine_asked,wu]]]|#[qr,#[qE,#v[#[qV,Z0,#[qO,5,pv 0,rfl],pv 1],#[qO,5,pv 0,rfl]]]]]
 have fin:∀(v:V) (H1:Hp),Same H H1->Is H1 (.tup (runG st.run)) v->tFld K (tVar 0) "rule_asks" [u_ (.ref g.x),u_ v] H1 λx H2=>tVar 1 [u_ (.ref g.x),u_ v] H2 λy H3=>rCatG K x y H3 λz H4=>tFld K (tVar 0) "end" [u_ (.ref g.x),u_ v] H4 λu H5=> [z,u].length<=Vb/\∀p,H5 p=U_->Q (.ref p) (upd H5 p (.tup [z,u])):=λv H1 s1 hv=>by
  exists 0,g.x,_,dx,fs,0,s1 _ _ e,T.qQ,T.yN,f.yT,0;refine catG_is (j.mono s1.tk) hv hl λz H4 s4 i4=> ?_;have U:=s1.trans s4
  exists 5
  refine⟨0,g.x,_,dx,fs,0,U _ _ e,T.qQ,T.QX,f.f_end,(sml rfl),λp hp=> ?_⟩;have n:=qf hp (.tup [z,ev]);exact k _ _ (U.trans n) (Is.new ⟨_,0,i4,_,0,l.mono U.tk,1⟩ hp)
 exists 0,g.x,_,dx,fs,0,e,T.qQ,T.qX,f.Qs,1,0;cases O:st.run with
 |none=>
  rw [O] at Z fin;cases(show rv= .non from Z)
  refine iteB (uf rfl) [(sml rfl):λt ht=> ?_];exact fin _ _ (qf ht _) (Is.new (ds:= []) rfl ht)
 |some p=>
  erw[p,mc,r];rw [O] at Z fin;erw[Z,rfl,hn,hM];erw[id hM,dm,fm,ac,ru,tv,gv,em,aa,i1,i2,i3,i4,i5,i6];refine iteN (uh (λz=>by cases z)) ?_
  exists 5
  refine⟨0,g.x,_,dx,fs,0,e,T.qQ,T.qX,f.Qs,mc.x,dm,fm,1,em,aa.meth _ (),mc,r,1,hM,λv H1 s1 hv=> ?_⟩
  exact fin v H1 s1 hv
structure Gw (g:Gc)(o:om (Mc×Rn))(H H':Hp):Prop where
 kept:∀b ob,H b=u_ ob->b≠g.x->(∀mc r,o=u_ (mc,r)->b≠mc.x/\b≠mc.db/\b≠mc.dg)->H' b=u_ ob
 tk:Tk H H'
inductive Xt (C CM CO:Addr) (vs:List V) (H:Hp) (Q:VK) (E_:XK):Prop
 |mk (g:Gc) (s:Gs) (v:V) (d:D) (_:vs= [.ref g.x,v]) (_:GoAt C CM H g s) (_:nm g.n=v_) (_:Is H d v) (_:g.o≠g.x) (_:(∃dx fs,H g.o=u_ (.ins CO dx fs)/\fs.lookup ("runner":Str)=U_)) (_:((s.run=U_/\∃z,s.mb= .str z/\∀H' s',Gw g s.run H H'->GoAt C CM H' g s'->BegOk H g d {s with ra:= [.tup [.tup [.str "rule",.str z],d]]} s'->Q .non H')∨∃mc r u q,s.run=u_ (mc,r)/\mc.own=g.n/\ya mc.rs/\RnOk mc.rs r/\r.th= .tup [.str "asks",.tup [.str u,q]]/\ansB u d=v_/\∀H',Gw g s.run H H'->GoAt C CM H' g (lookS {s with run:=u_ (mc,ansS mc.rs mc.own r d)} (ansS mc.rs mc.own r d))->Q .non H'))
theorem go_mv {g:Gc}{s:Gs}{mc:Mc}{r O:Rn}(h:GoAt C CM H g s)(Z:s.run=u_ (mc,r))(v:Mv mc H H')(hM:Yc CM H' mc O):GoAt C CM H' g {s with run:=u_ (mc,O)}:=by
 erw[h,dx,fs,mv,av,rv,ev,e,f,i,j,k,l];rw [Z] at k;erw[k,rfl,hn,hm];erw[id hm,dm,fm,aa,ru,tv,gv,em,ac,i1,i2,i3,U,i5,i6];have n1:g.x≠mc.db:=(Ym.ne e i3).symm;have n2:g.x≠mc.dg:=λz=>by rw [<-z,e] at U;cases U
 exact⟨dx,fs,mv,av,_,ev,v.kept _ _ e hn.symm n1 n2,f,i.mono v.tk,j.mono v.tk,[1:hn:hM],l.mono v.tk⟩
theorem ok_gtake (T:Tx K mg a)(C:Fx K w mg g a):#[K,10,a.zI,a.Zb,["self","answer"],(Xt a.qM a.qo a.qm)]:=by
 have jF:=#[ok_begin,T,C];have j8:=#[ok_look,T];have Zy:=#[ok_ans,T,C];exists 9,T.g_Going_take,Kv
 erw[h,U,st,v,d,rfl,hG,hn,hv,am,[ao,ap,ho,aq],h];have hs:=uF;erw[id hG,dx,fs,mv,av,rv,ev,e,f,i,j,hR,l];exists 3,%[|#[qL,#[qp,Yb,#[qO,5,pv 0,rfl],qW,qB _],%[#[Qg,#[qE,#v[#[qE,#v[#[qE,#v[qk,#[qO,5,pv 0,rfl]]],pv 1]]]]]|#[qY,#[Qi,pv 0,T.qQ,T.g_Going_begin,jF,#v[pv 1]]]],%[#[qY,#[Qi,#[qO,5,pv 0,rfl],T.qv,T.g_Machine_answer,Zy,#v[pv 1]]]|#[qY,#[yg,pv 0,T.qQ,T.g_Going_look,j8]]]]]
 exists 0,U.x,_,dx,fs,0,e,T.qQ,T.qX,f.Qs,1,0;rcases h with⟨O,z,hz,k⟩|⟨mc,r,u,q,O,au,ad,ae,af,Z,k⟩
 ·rw [O] at hR;cases(show rv= .non from hR)
  refine iteB (uf rfl) ?_;rw [hz] at i;obtain⟨rfl,hl⟩:=(show mv= .str z/\z.length<=Vb from i)
  have aw:fs.length<1000:=by have:=f.len;omega
  exists 5
  refine⟨0,U.x,_,dx,fs,0,e,T.qQ,T.yF,f.Ys,(sml rfl),λt1 ag=> ?_⟩;have m1:=qf ag (.tup [V.str "rule",V.str z]);have k1:Is (upd H t1 (.tup [V.str "rule",V.str z])) (.tup [.str "rule",.str z]) (.ref t1):=Is.new ⟨_,0,yl (),_,0,[1:hl],1⟩ ag
  exists 5
  refine[0:(sml rfl):λt2 ah=> ?_];have m2:=qf ah (.tup [V.ref t1,v]);have k2:=Is.new (ds:= [.tup [.str "rule",.str z],d]) ⟨_,0,k1,_,0,hv.mono m1.tk,1⟩ ah
  exists 5
  refine[(sml rfl):λt3 ak=> ?_];have m3:=qf ak (.tup [V.ref t2]);have k3:=Is.new (ds:= [.tup [.tup [.str "rule",.str z],d]]) ⟨_,0,k2,1⟩ ak;have s3:=(m1.trans m2).trans m3
  exists 0,U.x,_,dx,fs,1,s3 _ _ e,T.qQ,T.yN,aw;have iz:Is H (.str z) (.str z):=[1:hl];obtain⟨p1,p2⟩:=W5 (C:=a.qM) (CM:=a.qo) (g:=U) (s:={st with ra:= [.tup [.tup [.str "rule",.str z],d]]}) (s3 _ _ e) (f.set_rule_asks (u:= .ref t3)) (by show Is _ st.mb _;rw [hz];exact iz.mono s3.tk) k3 (by show Wp _ _ _ _ st.run;rw [O];rfl) (l.mono s3.tk)
  erw[id p1,aa,ac,_,_,_,_,e3,f3,_];have al:=s3.tk.trans p2.tk
  exists 5
  refine⟨0,U.x,aa,ac,1,e3,f3.meth _ (),0,U,_,v,d,1,p1,O,hn,hv.mono al,⟨ao,ap,p2.kept _ _ (s3 _ _ ho) am,aq⟩,λH4 s4 v4 G4 b4=>k H4 s4 [λb ob h n _=>v4.kept b ob (p2.kept b ob (s3 b ob h) n) n:al.trans v4.tk] G4 ⟨b4.mb,b4.ra,b4.lack,b4.rule,λrs h=> ?_⟩⟩
  erw[b4.go rs h,mc,c1,c2,c3,c4];have fr:∀b,upd (upd (upd (upd H t1 (.tup [V.str "rule",V.str z])) t2 (.tup [V.ref t1,v])) t3 (.tup [V.ref t2])) U.x (.ins a.qM dx (putF "rule_asks" (.ref t3) fs)) b=U_->H b=none:=λb hb=>by
   cases hc:H b with
   |none=>rfl
   |some ob=>
    by_cases c:b=U.x
    ·rw [c,qg] at hb;cases hb
    ·rw [p2.kept b ob (s3 b ob hc) c] at hb;cases hb
  exact⟨mc,fr _ c1,fr _ c2,fr _ c3,c4⟩
 ·rw [O] at hR;erw[hR,rfl,aA,hM];erw[id hM,dm,fm,aB,ru,tv,gv,em,ax,i1,i2,i3,i4,i5,i6];refine iteN (uh (λz=>by cases z)) ?_
  have ay:mc.own.length<=100:=by rw [au];have:=w9 hn;omega
  exists 5
  refine⟨0,U.x,_,dx,fs,0,e,T.qQ,T.qX,f.Qs,mc.x,dm,fm,1,em,ax.meth _ (),0,mc,r,v,u,q,d,1,hM,ae,af,hv,ad,ay,Z,λH1 v1 M1=> ?_⟩
  ·have G1:=go_mv hG O v1 M1;erw[id G1,aa,ac,_,_,_,_,e3,f3,_];have hok:=ansS_ok (own:=mc.own) ad ae (by rw [af];show decide (("asks":Str)="asks")=v_;exact uf rfl) (ansB_ok Z)
   exists 5
   refine⟨0,U.x,aa,ac,1,e3,f3.meth _ (),U,_,mc,0,G1,1,.inr hok.two,λH2 v2 G2=>k H2 [λb ob h n1 n2=>v2.kept b ob (v1.kept b ob h (n2 mc r O).1 (n2 mc r O).2.1 (n2 mc r O).2.2) n1:v1.tk.trans v2.tk] G2⟩
def gfs (n:Str)(o t:o3):oj (Str×V):= [("name",.str n),("order",.ref o),("made_by",.non),("rule_asks",.ref t),("rule_run",.non),("end",.non)]
theorem gfs_ok (n:Str)(o t:o3):GFl (gfs n o t) (.str n) (.ref o) .non (.ref t) .non .non:=by
 refine⟨1,1,1,1,1,1,?_,(by show 6<=20;decide)⟩
 intro m hm;simp![GMT,uC,uD,uO] at hm;rcases hm with rfl|rfl|rfl|rfl|rfl<;>rfl
def s0G:Gs:=⟨.non,[],U_,.non⟩
inductive sp_ginit (C CM CO:Addr) (vs:List V) (H:Hp) (Q:VK) (E_:XK):Prop
 |mk (x dx o:Addr) (n k:Str) (sv:V) (e:D) (_:vs= [.ref x,.str n,sv,.ref o]) (_:H x=u_ (.ins C dx [])) (_:Is H (.tup [.str k,e]) sv) (_:nm n=v_) (_:o≠x) (_:(∃dx fs,H o=u_ (.ins CO dx fs)/\fs.lookup ("runner":Str)=U_)) (_:∀H' s',(∀b ob,H b=u_ ob->b≠x->H' b=u_ ob)->Tk H H'->GoAt C CM H' ⟨x,o,n⟩ s'->(k="made"->s'={s0G with mb:=e})->(k≠"made"->BegOk H ⟨x,o,n⟩ e s0G s')->Q .non H')
theorem gen1 {x:o3}{fs:oj (Str×V)}{P:Hp->Prop}(e:H x=u_ (.ins C dx fs))(h:∀H1,H1 x=u_ (.ins C dx fs')->(∀b ob,H b=u_ ob->b≠x->H1 b=u_ ob)->Tk H H1->P H1):P (upd H x (.ins C dx fs')):=h _ qg (λb ob h n=>by rwa [qh n]) (Tk.updI e)
theorem ok_ginit (T:Tx K mg a)(C:Fx K w mg g a):#[K,10,a.Jg,a.Zi,["self","name","source","order"],(sp_ginit a.qM a.qo a.qm)]:=by
 have jF:=#[ok_begin,T,C];exists 9,T.g_Going_init,Kh
 erw[h,x,dx,o,n,k,sv,d,rfl,hx,aa,hn,nox,[ac,ad,ho,ae],q];have hs:=uF;exists 3,%[#[Qg,pv 1],#[Qg,pv 3],#[Qg,qW],#[Qg,#[qE,qc]],#[Qg,qW],#[Qg,qW]|#[qL,#[qp,QF,#[qJ,qI,pv 2,qi],qk,qB _],%[|#[Qg,#[qJ,qI,pv 2,qi]]],%[|#[qY,#[Qi,pv 0,T.qQ,T.g_Going_begin,jF,#v[#[qJ,qI,pv 2,qi]]]]]]]
 exists 0,0,x,_,dx,0,hx,T.qQ,T.y9,()
 refine gen1 (P:=tSeq _ _ _ _) hx λH1 x1 k1 t1=> ?_
 exists 5
 refine⟨0,0,x,_,dx,0,x1,T.qQ,T.Xo,by show 1<1000;decide,?_⟩
 refine gen1 (P:=tSeq _ _ _ _) x1 λH2 x2 k2 t2=> ?_
 exists 5
 refine⟨0,x,_,dx,0,x2,T.qQ,T.yF,by show 2<1000;decide,?_⟩
 refine gen1 (P:=tSeq _ _ _ _) x2 λH3 x3 k3 t3=> ?_
 exists 5
 refine[sml rfl:λt ht=> ?_];have nxt:=(ql x3 ht).symm;have s4:=qf ht (.tup ([]:oj V))
 exists 5
 refine⟨0,x,_,dx,0,s4 _ _ x3,T.qQ,T.yN,by show 3<1000;decide,?_⟩
 refine gen1 (P:=tSeq _ _ _ _) (s4 _ _ x3) λH5 x5 k5 t5=> ?_
 exists 5
 refine⟨0,x,_,dx,0,x5,T.qQ,T.qX,by show 4<1000;decide,?_⟩
 refine gen1 (P:=tSeq _ _ _ _) x5 λH6 x6 k6 t6=> ?_
 exists 5
 refine⟨0,x,_,dx,0,x6,T.qQ,T.QX,by show 5<1000;decide,?_⟩
 refine gen1 (P:=λH=>_) x6 λZ O k7 t7=> ?_;have kp:∀b ob,H b=u_ ob->b≠x->Z b=u_ ob:=λb ob h nb=>k7 b ob (k6 b ob (k5 b ob (s4 b ob (k3 b ob (k2 b ob (k1 b ob h nb) nb) nb)) nb) nb) nb;have U:=(((((t1.trans t2).trans t3).trans s4.tk).trans t5).trans t6).trans t7;have O:Z x=u_ (.ins a.qM dx (gfs n o t)):=O;have eT:Z t=u_ (.tup ([]:oj V)):=k7 _ _ (k6 _ _ (k5 _ _ qg nxt) nxt) nxt;have i0:Is Z (.tup []) (.ref t):=⟨t,[],1,eT,1⟩;have G0:GoAt a.qM a.qo Z ⟨x,o,n⟩ s0G:=⟨dx,_,_,_,_,_,O,gfs_ok n o t,1,i0,1,1⟩;have af:=aa.mono U;erw[af,p,ws,rfl,hp,w1,r1,rfl,[rfl,ag],w2,r2,rfl,h2,h3];cases(show r2= [] from h3)
 exists 0,p,_,_,0,1,SqT.of hp,1,1,0;by_cases ck:k="made"
 ·refine iteB (uf (by rw [ck])) ⟨0,p,_,_,0,1,SqT.of hp,1,0,x,_,dx,0,O,T.qQ,T.yF,(by show 6<1000;decide),?_⟩
  erw[W5 (C:=a.qM) (CM:=a.qo) (g:=[x:o:n]) (s:={s0G with mb:=d}) O ((gfs_ok n o t).set_made_by (u:=w2)) h2 i0 rfl rfl,p1,p2]
  exact q _ _ (λb ob h nb=>p2.kept b ob (kp b ob h nb) nb) (U.trans p2.tk) p1 (λ_=>rfl) λz=>absurd ck z
 ·refine iteN (uh (λz=>ck (V.str.inj z))) ?_
  exists 5
  refine⟨0,x,dx,0,O,(gfs_ok n o t).meth _ (),0,p,_,_,0,1,SqT.of hp,1,[x:o:n],s0G,w2,d,1,G0,1,hn,h2,⟨ac,ad,kp _ _ ho nox,ae⟩,λH8 s8 v8 G8 b8=>q H8 s8 (λb ob h nb=>v8.kept b ob (kp b ob h nb) nb) (U.trans v8.tk) G8 (λz=>absurd z ck) λ_=>⟨b8.mb,b8.ra,b8.lack,b8.rule,λrs h=> ?_⟩⟩
  erw[b8.go rs h,mc,c1,c2,c3,c4];have fr:∀b,Z b=U_->H b=none:=λb hb=>by
   cases hc:H b with
   |none=>rfl
   |some ob=>
    by_cases c:b=x
    ·rw [c,O] at hb;cases hb
    ·rw [kp b ob hc c] at hb;cases hb
  exact⟨mc,fr _ c1,fr _ c2,fr _ c3,c4⟩
def wl:D->D
 | .non=> .tup [.str "lack"]
 | .tup [.str k,e]=>if k="leaf" then .tup [.str "value",e] else .non
 |_=> .non
def Yu:D->D
 | .tup [.str k,e]=>if k="said" then .tup [.str "value",e] else .tup [.str k,e]
 |d=>d
inductive sp_once (vs:List V) (H:Hp) (Q:VK) (E_:XK):Prop
 |mk (v:V) (d:D) (_:vs= [v]) (_:Is H d v) (_:(d= .non∨∃k e,d= .tup [.str k,e])) (_:∀u H',Same H H'->Is H' (wl d) u->Q u H')
inductive sp_ansby (vs:List V) (H:Hp) (Q:VK) (E_:XK):Prop
 |mk (v:V) (k:Str) (e:D) (_:vs= [v]) (_:Is H (.tup [.str k,e]) v) (_:∀u H',Same H H'->Is H' (Yu (.tup [.str k,e])) u->Q u H')
theorem ok_ansby (T:Tx K mg a):#[K,1,a.wq,a.ZY,["end"],sp_ansby]:=by
 exists 9,T.g_answer_by,sc_answer_by
 erw[h,v,k,e,rfl,U,q];have hs:=uF;have O:=U;erw[U,p,ws,rfl,Z,w1,r1,rfl,[rfl,aa],w2,r2,rfl,h2,h3];cases(show r2= [] from h3)
 exists 3,%[|#[qr,#[Q2,#[qp,QF,#[qJ,qI,pv 0,qi],qk,qB _],#[qE,#v[qk,#[qJ,qI,pv 0,qi]]],pv 0]]]
 exists 0,p,_,_,0,1,SqT.of Z,1,1,0;by_cases c:k="said"
 ·refine iteB (uf (by rw [c])) ⟨0,p,_,_,0,1,SqT.of Z,1,(sml rfl),λt ht=> ?_⟩
  refine q _ _ (qf ht _) ?_;unfold Yu
  try dsimp only
  rw [Aa c];exact Is.new ⟨_,0,yl (),_,0,h2,1⟩ ht
 ·refine iteN (uh (λz=>c (V.str.inj z))) [0:q _ H (Same.refl _) ?_];unfold Yu
  try dsimp only
  rw [A2 c];exact O
theorem ok_once (T:Tx K mg a):#[K,1,a.jL,a.jN,["source"],sp_once]:=by
 exists 9,T.g_answer_at_once,zh
 erw[h,v,d,rfl,U,hd,q];have hs:=uF;exists 3,%[#[qL,#[qp,Yb,pv 0,qW,qB _],%[|#[qr,#[qE,#v[qk]]]],qx]|#[qr,#[Q2,#[qp,QF,#[qJ,qI,pv 0,qi],qk,qB _],#[qE,#v[qk,#[qJ,qI,pv 0,qi]]],qW]]]
 exists 0,1,0;rcases hd with rfl|⟨k,e,rfl⟩
 ·cases(show v= .non from U)
  refine iteB (uf rfl) [(sml rfl):λt O=> ?_];exact q _ _ (qf O _) (Is.new ⟨_,0,yl (),1⟩ O)
 ·erw[U,p,ws,rfl,Z,w1,r1,rfl,[rfl,aa],w2,r2,rfl,h2,h3];cases(show r2= [] from h3)
  refine iteN (uh (λz=>by cases z)) ?_
  exists 0,p,_,_,0,1,SqT.of Z,1,1,0;by_cases c:k="leaf"
  ·refine iteB (uf (by rw [c])) ⟨0,p,_,_,0,1,SqT.of Z,1,(sml rfl),λt O=> ?_⟩
   refine q _ _ (qf O _) ?_;unfold wl
   try dsimp only
   rw [Aa c];exact Is.new ⟨_,0,yl (),_,0,h2,1⟩ O
  ·refine iteN (uh (λz=>c (V.str.inj z))) (q _ H (Same.refl _) ?_);unfold wl
   try dsimp only
   rw [A2 c];exact(rfl:V.non=V.non)
end
structure Sy where
 G:Type
 fin:G->Bool
 want:G->om Str
 own:G->G
 tk:G->om D->G
 stuck:G->Str->G
 said:G->om D
 g0:Str->om G
 once:Str->om D
 lft:G->Nat
 M:Nat
 ns:oj Str
structure Sy.Ok (Y:Sy):Prop where
 fs:∀g m,Y.fin (Y.stuck g m)=v_
 ss:∀g m,Y.said (Y.stuck g m)=U_
 sf:∀g v,Y.said g=u_ v->Y.fin g=v_
 lo:∀g,Y.fin g=V9->Y.want g=U_->Y.lft (Y.own g)<Y.lft g
 lt:∀g m a,Y.fin g=V9->Y.want g=u_ m->Y.lft (Y.tk g a)<Y.lft g
 lk:∀g m,Y.fin g=V9->Y.lft (Y.stuck g m)<Y.lft g
 l0:∀m g,Y.g0 m=u_ g->Y.lft g<=Y.M
 gn:∀m g,Y.g0 m=u_ g->m∈Y.ns
namespace Sy
variable {Y:Sy}
abbrev Orc:=Str->om (om D)
def step (Y:Sy)(f:Orc)(g:Y.G):Y.G:=if Y.fin g=v_ then g else match Y.want g with
 |none=>Y.own g
 |some m=>match f m with
  |some a=>Y.tk g a
  |none=>Y.stuck g m
def it (Y:Sy)(f:Orc):Nat->Y.G->Y.G
 |0,g=>g
 |k+1,g=>it Y f k (step Y f g)
theorem ZB {f:Orc}{g:Y.G}(h:Y.fin g=v_):step Y f g=g:=by unfold step;rw [Aa h]
theorem XM {f:Orc}{g:Y.G}(h:Y.fin g=v_):∀k,it Y f k g=g
 |0=>rfl
 |k+1=>by show it Y f k (step Y f g)=g;rw [ZB h];exact XM h k
theorem Xl {f:Orc}:∀(k j:Nat) (g:Y.G),it Y f (k+j) g=it Y f j (it Y f k g)
 |0,j,g=>by rw [GW];rfl
 |k+1,j,g=>by
  rw [Nat.add_right_comm];show it Y f (k+j) (step Y f g)=_;rw [Xl k j]
  rfl
theorem it_snoc {f:Orc}(k:Nat)(g:Y.G):it Y f (k+1) g=step Y f (it Y f k g):=Xl k 1 g
theorem step_lft (h:Y.Ok){f:Orc}{g:Y.G}(O:Y.fin g=V9):Y.lft (step Y f g)<Y.lft g:=by
 unfold step;rw [O,A2 u5];cases U:Y.want g with
 |none=>exact h.lo g O U
 |some m=>
  show Y.lft (match f m with|some a=>Y.tk g a|none=>Y.stuck g m)<_
  cases f m with
  |some a=>exact h.lt g m a O U
  |none=>exact h.lk g m O
theorem it_end (h:Y.Ok){f:Orc}:∀(k:Nat) (g:Y.G),Y.lft g<=k->Y.fin (it Y f k g)=v_
 |0,g,hl=>by
  show Y.fin g=v_;cases O:Y.fin g with
  |true=>rfl
  |false=>have:=step_lft (f:=f) h O;omega
 |k+1,g,hl=>by
  show Y.fin (it Y f k (step Y f g))=v_;cases O:Y.fin g with
  |true=>rw [ZB O,XM O];exact O
  |false=>exact it_end h k _ (by have:=step_lft (f:=f) h O;omega)
variable {j:Nat}
theorem it_one {f:Orc}{g:Y.G}{k:Nat}(O:Y.fin (it Y f k g)=v_)(U:Y.fin (it Y f j g)=v_):it Y f k g=it Y f j g:=by
 rcases H_ k j with h|h
 ·erw[UZ h,d,rfl];rw [Xl,XM O]
 ·erw[UZ h,d,rfl];rw [Xl,XM U]
theorem it_mono (h:Y.Ok){f f':Orc}(hm:∀m a,f m=u_ a->f' m=u_ a):∀(k:Nat) (g:Y.G),it Y f' k g=it Y f k g∨((∀j,it Y f j (it Y f k g)=it Y f k g)/\Y.said (it Y f k g)=U_)
 |0,g=> .inl rfl
 |k+1,g=>by
  show it Y f' k (step Y f' g)=it Y f k (step Y f g)∨_;by_cases c:step Y f' g=step Y f g
  ·rw [c];exact it_mono h hm k _
  ·right;have U:Y.fin g=false:=by
    cases U:Y.fin g with
    |false=>rfl
    |true=>exact absurd (by rw [ZB U,ZB U]) c
   have e:∃m,step Y f g=Y.stuck g m:=by
    unfold step at c⊢;rw [U,A2 u5] at c⊢;rw [A2 u5] at c;cases Z:Y.want g with
    |none=>rw [Z] at c;exact absurd rfl c
    |some m=>
     rw [Z] at c;simp only at c⊢;cases O:f m with
     |none=>exact[m:1]
     |some a=>rw [O,hm m a O] at c;exact absurd rfl c
   erw[e,m,e];have e2:it Y f (k+1) g=Y.stuck g m:=by
    show it Y f k (step Y f g)=_;rw [e];exact XM (h.fs g m) k
   rw [e2];exact[XM (h.fs g m):h.ss g m]
theorem kP (h:Y.Ok){f f':Orc}(hm:∀m a,f m=u_ a->f' m=u_ a){k:Nat}{g:Y.G}{v:D}(O:Y.said (it Y f k g)=u_ v):it Y f' k g=it Y f k g:=by
 rcases it_mono h hm k g with e|⟨_,e⟩
 ·exact e
 ·rw [O] at e;cases e
def Fh (Y:Sy):Nat->Orc
 |0,m=>match Y.g0 m with
  |none=>u_ (Y.once m)
  |some _=>U_
 |h+1,m=>match Y.g0 m with
  |none=>u_ (Y.once m)
  |some g=>(Y.said (it Y (Fh Y h) Y.M g)).map u_
variable {m:Str}
theorem zr (h:Y.g0 m=U_):∀k,Fh Y k m=u_ (Y.once m)
 |0=>by simp![Fh,h]
 |k+1=>by simp![Fh,h]
theorem WZ {g:Y.G}(h:Y.g0 m=u_ g)(k:Nat):Fh Y (k+1) m=(Y.said (it Y (Fh Y k) Y.M g)).map some:=by simp![Fh,h]
theorem wW {g:Y.G}(h:Y.g0 m=u_ g):Fh Y 0 m=none:=by simp![Fh,h]
theorem Fh_succ (h:Y.Ok):∀(k:Nat) (m:Str) (a:om D),Fh Y k m=u_ a->Fh Y (k+1) m=u_ a
 |0,m,a,e=>by
  cases O:Y.g0 m with
  |none=>rw [zr O] at e⊢;exact e
  |some g=>rw [wW O] at e;cases e
 |k+1,m,a,e=>by
  cases O:Y.g0 m with
  |none=>rw [zr O] at e⊢;exact e
  |some g=>
   rw [WZ O] at e⊢;cases U:Y.said (it Y (Fh Y k) Y.M g) with
   |none=>rw [U] at e;cases e
   |some v=>
    rw [kP h (Fh_succ h k) U];exact e
theorem Fh_le (h:Y.Ok){k:Nat}(O:k<=j){a:om D}(e:Fh Y k m=u_ a):Fh Y j m=u_ a:=by
 erw[UZ O,d,rfl]
 induction d with
 |zero=>exact e
 |succ d U=>exact Fh_succ h _ _ _ (U ())
open Classical in
def F (Y:Sy):Orc:=λm=>if h:∃a k,Fh Y k m=u_ a then u_ (choose h) else U_
theorem Ko (h:Y.Ok){a:om D}:F Y m=u_ a↔∃k,Fh Y k m=u_ a:=by
 unfold F;constructor
 ·intro e;by_cases c:∃a k,Fh Y k m=u_ a
  ·rw [dif_pos c] at e;have:=FC c;rwa [uK e] at this
  ·rw [dif_neg c] at e;cases e
 ·rintro⟨k,e⟩;have c:∃a k,Fh Y k m=u_ a:=[a:k:e];rw [dif_pos c];erw[FC c,j,U];have Z:=Fh_le h (Nat.le_max_left k j) e;have O:=Fh_le h (Nat.le_max_right k j) U;rw [Z] at O;exact O.symm
theorem F_of (h:Y.Ok){k:Nat}{a:om D}(e:Fh Y k m=u_ a):F Y m=u_ a:=(Ko h).mpr [k:e]
theorem F_once (h:Y.Ok)(O:Y.g0 m=U_):F Y m=u_ (Y.once m):=F_of h (zr O 0)
theorem step_near (h:Y.Ok)(g:Y.G):∃k,∀j,k<=j->step Y (Fh Y j) g=step Y (F Y) g:=by
 unfold step;by_cases U:Y.fin g=v_
 ·exact⟨(0),λj _=>by rw [Aa U,Aa U]⟩
 ·cases hw:Y.want g with
  |none=>exact[(0):λj _=>rfl]
  |some m=>
   cases O:F Y m with
   |some a=>
    erw[(Ko h).mp O,k,e];exact⟨k,λj Z=>by simp![Fh_le h Z e,O]⟩
   |none=>
    refine[(0):λj _=> ?_];have:Fh Y j m=none:=by
     cases e:Fh Y j m with
     |none=>rfl
     |some a=>rw [F_of h e] at O;cases O
    simp![this,O]
theorem it_near (h:Y.Ok):∀(n:Nat) (g:Y.G),∃k,∀j,k<=j->it Y (Fh Y j) n g=it Y (F Y) n g
 |0,g=>[(0):λ_ _=>rfl]
 |n+1,g=>by
  erw[step_near h g,k1,h1];erw[it_near h n (step Y (F Y) g),k2,h2];refine[max k1 k2:λj O=> ?_];show it Y (Fh Y j) n (step Y (Fh Y j) g)=it Y (F Y) n (step Y (F Y) g);rw [h1 j (),h2 j ()]
theorem F_run (h:Y.Ok){g:Y.G}(U:Y.g0 m=u_ g):F Y m=(Y.said (it Y (F Y) Y.M g)).map some:=by
 cases Z:Y.said (it Y (F Y) Y.M g) with
 |some v=>
  erw[it_near h Y.M g,k,e];refine F_of h (k:=k+1) ?_;rw [WZ U,e k (uj _),Z]
  rfl
 |none=>
  show F Y m=U_;cases e:F Y m with
  |none=>rfl
  |some a=>
   erw[(Ko h).mp e,k,e];cases k with
   |zero=>rw [wW U] at e;cases e
   |succ k=>
    rw [WZ U] at e;cases O:Y.said (it Y (Fh Y k) Y.M g) with
    |none=>rw [O] at e;cases e
    |some v=>
     rw [<-kP h (λm a q=>F_of h q) O,Z] at O;cases O
def Wt (Y:Sy)(n m:Str):Prop:=∃g k,Y.g0 n=u_ g/\Y.fin (it Y (F Y) k g)=V9/\Y.want (it Y (F Y) k g)=u_ m
theorem wt_less (h:Y.Ok){n:Str}(w:Wt Y n m){k:Nat}{a:om D}(e:Fh Y k n=u_ a):∃j b,j<k/\Fh Y j m=u_ b:=by
 erw[w,g,i,hg,hf,hw];cases k with
 |zero=>rw [wW hg] at e;cases e
 |succ k=>
  exists k;rw [WZ hg] at e;cases U:Y.said (it Y (Fh Y k) Y.M g) with
  |none=>rw [U] at e;cases e
  |some v=>
   have O:=h.sf _ _ U;have eM:=kP h (f':=F Y) (λm a q=>F_of h q) U;rcases it_mono h (f:=Fh Y k) (f':=F Y) (λm a q=>F_of h q) i g with ei|⟨ei,es⟩
   ·rw [ei] at hf hw;cases hm:Fh Y k m with
    |some b=>exact[b:Tp k:1]
    |none=>
     have e1:it Y (Fh Y k) (i+1) g=Y.stuck (it Y (Fh Y k) i g) m:=by
      rw [it_snoc];unfold step;rw [hf,A2 u5,hw];simp![hm]
     have e2:Y.fin (it Y (Fh Y k) (i+1) g)=true:=by rw [e1];exact h.fs _ _
     rw [<-it_one e2 O,e1,h.ss] at U;cases U
   ·have Z:it Y (Fh Y k) (i+Y.M) g=it Y (Fh Y k) i g:=by rw [Xl];exact ei _
    have e3:it Y (Fh Y k) (Y.M+i) g=it Y (Fh Y k) Y.M g:=by rw [Xl];exact XM O i
    rw [<-e3,rD,Z,es] at U;cases U
inductive Wts (Y:Sy):Str->Str->Prop
 |one {n m:Str}:Wt Y n m->Wts Y n m
 |more {n m l:Str}:Wts Y n m->Wt Y m l->Wts Y n l
theorem wts_less (h:Y.Ok){n:Str}(w:Wts Y n m):∀{k:Nat}{a:om D},Fh Y k n=u_ a->∃j b,j<k/\Fh Y j m=u_ b:=by
 induction w with
 |one w=>exact λe=>wt_less h w e
 |more _ w O=>
  intro k a e;erw[O e,j,b,hj,U];erw[wt_less h w U,i,c,hi,Z];exact⟨i,c,(),Z⟩
theorem Xr (h:Y.Ok){n:Str}(w:Wts Y n n):F Y n=none:=by
 have O:∀k a,Fh Y k n≠u_ a:=by
  intro k
  induction k using R9 with
  |_ k U=>
   intro a e;erw[wts_less h w e,j,b,Z,e1];exact U j Z b e1
 cases e:F Y n with
 |none=>rfl
 |some a=>
  erw[(Ko h).mp e,k,e];exact absurd e (O k a)
structure Ss (Y:Sy) where
 stk:oj (Str×Y.G)
 don:oj (Str×Y.G)
def YM (l:oj (Str×Y.G))(m:Str):om Y.G:=(l.find? λp=>decide (p.1=m)).map (·.2)
def yet (S:Ss Y)(m:Str):om (om (om D)):=if m∈S.stk.map (·.1) then u_ U_ else match Y.g0 m with
 |none=>u_ (u_ (Y.once m))
 |some _=>(YM S.don m).map λg=>(Y.said g).map u_
def nxt (S:Ss Y):Ss Y:=match S.stk with
 | []=>S
 |(n,g)::r=>if Y.fin g=v_ then[r:S.don++ [(n,g)]] else match Y.want g with
  |none=>[(n,Y.own g)::r:S.don]
  |some m=>match yet S m with
   |some (u_ a)=>[(n,Y.tk g a)::r:S.don]
   |some U_=>[(n,Y.stuck g m)::r:S.don]
   |none=>match Y.g0 m with
    |some g'=>[(m,g')::(n,g)::r:S.don]
    |none=>S
def nx (S:Ss Y):Nat->Ss Y
 |0=>S
 |k+1=>nxt (nx S k)
def rest (S:Ss Y):oj Str:=Y.ns.filter λm=>decide (m∉S.stk.map (·.1))&&decide (m∉S.don.map (·.1))
def lfts:oj (Str×Y.G)->Nat
 | []=>0
 |(_,g)::r=>Y.lft g+1+lfts r
def mu (S:Ss Y):Nat:=lfts S.stk+(Y.M+2)*(rest S).length
variable {S:Ss Y}
theorem JG (h:yet S m=U_):m∉S.stk.map (·.1)/\(∃g,Y.g0 m=u_ g)/\m∉S.don.map (·.1):=by
 unfold yet at h;by_cases c:m∈S.stk.map (·.1)
 ·rw [Aa c] at h;cases h
 ·rw [A2 c] at h;cases O:Y.g0 m with
  |none=>rw [O] at h;cases h
  |some g=>
   rw [O] at h;simp![Tw] at h;refine[c:[g:1]:λhm=> ?_];erw[Ag.mp hm,p,U,rfl];have h3:(S.don.find? λq=>decide (q.1=p.1))=none:=by simpa [YM] using h
   rw [Ur] at h3;exact h3 p U (by simp)
variable {l:oj Str}
theorem Ks {p q:Str->Bool}(Z:m∈l)(hp:p m=v_)(hq:q m=V9)(O:∀x,q x=v_->p x=v_):(l.filter q).length<(l.filter p).length:=by
 induction l with
 |nil=>cases Z
 |cons x r U=>
  have le:(r.filter q).length<=(r.filter p).length:=by
   clear U Z
   induction r with
   |nil=>exact uj _
   |cons y r U=>
    rw [vz,vz];cases h1:q y with
    |true=>rw [O y h1,Aa rfl,Aa rfl];simp![um];omega
    |false=>
     rw [A2 u5];split
     ·simp![um];omega
     ·exact U
  rw [vz,vz];rcases Ac.mp Z with rfl|hm
  ·rw [hp,hq,Aa rfl,A2 u5,um];omega
  ·have:=U hm;cases h1:q x with
   |true=>rw [O x h1,Aa rfl,Aa rfl];simp![um];omega
   |false=>
    rw [A2 u5];split
    ·simp![um];omega
    ·exact this
theorem nxt_mu (h:Y.Ok)(hs:S.stk≠ []):mu (nxt S)<mu S:=by
 erw[S,stk,don];cases stk with
 |nil=>exact absurd rfl hs
 |cons p r=>
  erw[p,n,g];have same:∀g',Y.lft g'<Y.lft g->mu (⟨(n,g')::r,don⟩:Ss Y)<mu ⟨(n,g)::r,don⟩:=by
   intro g' hl;show Y.lft g'+1+lfts r+(Y.M+2)*_<Y.lft g+1+lfts r+(Y.M+2)*_;have e:rest (⟨(n,g')::r,don⟩:Ss Y)=rest ⟨(n,g)::r,don⟩:=rfl;rw [e];omega
  unfold nxt;simp only;cases O:Y.fin g with
  |true=>
   rw [Aa rfl];show lfts r+(Y.M+2)*_<Y.lft g+1+lfts r+(Y.M+2)*_;have e:rest (⟨r,don++ [(n,g)]⟩:Ss Y)=rest ⟨(n,g)::r,don⟩:=by
    unfold rest
    congr 1
    funext x
    simp![uu,ui,Uf,Af,uC,uD,uO,<-Bool.decide_and];rw [uZ];constructor
    ·rintro⟨a,b⟩;exact[λz=>z.elim (λz=>b (.inr z)) a:λz=>b (.inl z)]
    ·rintro⟨a,b⟩;exact[λz=>a (.inr z):λz=>z.elim b λz=>a (.inl z)]
   rw [e];omega
  |false=>
   rw [A2 u5];cases hw:Y.want g with
   |none=>exact same _ (h.lo g O hw)
   |some m=>
    simp only;cases hy:yet ([(n,g)::r:don]:Ss Y) m with
    |some o=>
     cases o with
     |some a=>exact same _ (h.lt g m a O hw)
     |none=>exact same _ (h.lk g m O)
    |none=>
     simp only;erw[JG hy,h1,[g',U],h2];rw [U];show Y.lft g'+1+(Y.lft g+1+lfts r)+(Y.M+2)*(rest ([(m,g')::(n,g)::r:don]:Ss Y)).length<Y.lft g+1+lfts r+(Y.M+2)*(rest ([(n,g)::r:don]:Ss Y)).length;have e:(rest (⟨(m,g')::(n,g)::r,don⟩:Ss Y)).length<(rest (⟨(n,g)::r,don⟩:Ss Y)).length:=by
      refine Ks (m:=m) (h.gn m g' U) ?_ ?_ ?_
      ·simp![uw,vj];exact[h1:h2]
      ·simp
      ·intro x Z;simp![uw,vj] at Z⊢;exact[λz=>Z.1 (ud _ z):Z.2]
     have l0:=h.l0 m g' U;have e2:=Nat.mul_le_mul_left (Y.M+2) (Nat.succ_le_of_lt e);rw [Nat.mul_succ] at e2;omega
def Chn (Y:Sy):oj (Str×Y.G)->Prop
 | []=>True
 |(n,g)::r=>(∃s k,Y.g0 n=u_ s/\g=it Y (F Y) k s)/\Chn Y r/\∀p r',r=p::r'->Y.fin p.2=V9/\Y.want p.2=u_ n
structure SOk (n0:Str)(S:Ss Y):Prop where
 chn:Chn Y S.stk
 nd:(S.stk.map (·.1)++S.don.map (·.1)).Nodup
 don:∀p∈S.don,∃s,Y.g0 p.1=u_ s/\p.2=it Y (F Y) Y.M s
 bot:(S.stk.map (·.1)).getLast? =u_ n0∨S.stk= []/\(S.don.map (·.1)).getLast? =u_ n0
theorem chn_wts {n:Str}{g:Y.G}:∀{r:oj (Str×Y.G)}{m:Str},Chn Y ((n,g)::r)->m∈r.map (·.1)->Wts Y m n:=by
 intro r
 induction r generalizing n g with
 |nil=>intro m _ h;cases h
 |cons p r ih=>
  intro m hc hm;erw[p,O,g'];erw[hc,_,U,c3];erw[c3 (O,g') r rfl,f1,w1];erw[U.1,s,k,hs,Z];have w:Wt Y O n:=⟨s,k,hs,by rwa [<-Z],by rwa [<-Z]⟩
  rcases Ac.mp hm with rfl|hm
  ·exact .one w
  ·exact .more (ih U hm) w
theorem zT {l:oj (Str×Y.G)}{g:Y.G}(h:YM l m=u_ g):(m,g)∈l:=by
 unfold YM at h;cases e:l.find? λp=>decide (p.1=m) with
 |none=>rw [e] at h;cases h
 |some p=>
  rw [e] at h;cases uK h;have:=Ht e;have hm:p.1=m:=uA this;rw [<-hm];exact Ua e
variable {n0:Str}
theorem nxt_ok (h:Y.Ok)(hs:SOk n0 S):SOk n0 (nxt S):=by
 erw[S,stk,don];cases stk with
 |nil=>exact hs
 |cons p r=>
  erw[p,n,g];erw[hs,chn,nd,O,bot];erw[chn,[s,k,U,hk],c2,c3];have on:∀g',Y.fin g=V9->step Y (F Y) g=g'->SOk n0 (⟨(n,g')::r,don⟩:Ss Y):=by
   intro g' hf e;refine⟨[⟨s,k+1,U,?_⟩:c2:c3],nd,O,.inl ?_⟩
   ·rw [it_snoc,<-hk,e]
   ·rcases bot with b|⟨b,_⟩
    ·exact b
    ·cases b
  unfold nxt;simp only;cases hf:Y.fin g with
  |true=>
   rw [Aa rfl];refine⟨c2,?_,λq hq=> ?_,?_⟩
   ·show(r.map (·.1)++(don++ [(n,g)]).map (·.1)).Nodup;have ac:(n::(r.map (·.1)++don.map (·.1))).Nodup:=nd;rw [uu,<-vv];show((r.map (·.1)++don.map (·.1))++ [n]).Nodup;exact(T5 (l₁:= [n]) (l₂:=r.map (·.1)++don.map (·.1))).nodup_iff.mp ac
   ·rcases Af.mp hq with hq|hq
    ·exact O q hq
    ·cases Ae.mp hq;exists s,U;show g=_;rw [hk];refine it_one (by rwa [<-hk]) (it_end h _ _ (h.l0 n s U))
   ·rcases bot with b|⟨b,_⟩
    ·cases r with
     |nil=>
      right;exists 1;have hn:n=n0:=by simpa using b
      show((don++ [(n,g)]).map (·.1)).getLast? =u_ n0;rw [uu,hn];simp
     |cons q r=>
      left
      simpa [UU] using b
    ·cases b
  |false=>
   rw [A2 u5];have aa:step Y (F Y) g=match Y.want g with
     |none=>Y.own g
     |some m=>match F Y m with
      |some a=>Y.tk g a
      |none=>Y.stuck g m:=by
    unfold step;rw [hf,A2 u5]
   cases hw:Y.want g with
   |none=>exact on _ hf (by rw [aa,hw])
   |some m=>
    rw [hw] at aa;simp only at aa⊢;cases Z:yet ([(n,g)::r:don]:Ss Y) m with
    |some o=>
     have hF:F Y m=o:=by
      unfold yet at Z;by_cases c:m∈((n,g)::r).map (·.1)
      ·rw [Aa c] at Z;cases Z;have w:Wt Y n m:=⟨s,k,U,by rwa [<-hk],by rwa [<-hk]⟩
       rcases Ac.mp c with rfl|hm
       ·exact Xr h (.one w)
       ·exact Xr h (.more (chn_wts (g:=g) [⟨s,k,U,hk⟩:c2:c3] hm) w)
      ·rw [A2 c] at Z;cases hg:Y.g0 m with
       |none=>
        rw [hg] at Z;cases Z;exact F_once h hg
       |some gm=>
        rw [hg] at Z;simp only at Z;cases hd:YM don m with
        |none=>rw [hd] at Z;cases Z
        |some gd=>
         rw [hd] at Z;cases Z;erw[O _ (zT hd),s',e1,e2];rw [hg] at e1;cases e1;have e3:gd=it Y (F Y) Y.M gm:=e2;rw [F_run h hg,e3]
     cases o with
     |some a=>exact on _ hf (by rw [aa,hF])
     |none=>exact on _ hf (by rw [aa,hF])
    |none=>
     simp only;erw[JG Z,h1,[g',hg],h2];rw [hg];refine⟨[⟨g',(0),hg,1⟩:[⟨s,k,U,hk⟩:c2:c3]:λq r' e=> ?_],?_,O,.inl ?_⟩
     ·cases e;exact[hf:hw]
     ·show(m::(((n,g)::r).map (·.1)++don.map (·.1))).Nodup;rw [Ue];refine[λz=> ?_:nd];rcases Af.mp z with z|z
      ·exact h1 z
      ·exact h2 z
     ·rcases bot with b|⟨b,_⟩
      ·show(m::n::r.map (·.1)).getLast? =u_ n0;rwa [UU]
      ·cases b
theorem nx_ok (h:Y.Ok){n0:Str}{S:Ss Y}(O:SOk n0 S):∀k,SOk n0 (nx S k)
 |0=>O
 |k+1=>nxt_ok h (nx_ok h O k)
theorem nx_stop {S:Ss Y}{k:Nat}(h:(nx S k).stk= []):∀j,nx S (k+j)=nx S k
 |0=>rfl
 |j+1=>by
  show nxt (nx S (k+j))=_;rw [nx_stop h j];unfold nxt;rw [h]
theorem nx_one {k:Nat}(O:(nx S k).stk= [])(U:(nx S j).stk= []):nx S k=nx S j:=by
 rcases H_ k j with h|h
 ·erw[UZ h,d,rfl];exact(nx_stop O d).symm
 ·erw[UZ h,d,rfl];exact nx_stop U d
def S0 (Y:Sy)(n:Str):Ss Y:=match Y.g0 n with
 |none=>[[]:[]]
 |some g=>[[(n,g)]:[]]
theorem S0_ok {n:Str}{g:Y.G}(O:Y.g0 n=u_ g):SOk n (S0 Y n):=by
 unfold S0;rw [O];exact⟨⟨⟨g,(0),O,1⟩,trivial,λ_ _ e=>by cases e⟩,by simp,λ_ h=>(by cases h),.inl rfl⟩
end Sy
end K67
namespace K67
open PySem L2 PyProof.Rows
def ThS (d:D):Prop:=(∃z,d=flt z)∨(∃e,d= .tup [.str "said",e]/\isT e=v_)∨∃(u z:Str),d= .tup [.str "asks",.tup [.str u,.str z]]/\isT (.str z)=v_/\(u="names"∨(u="thing"∨u="has")/\nm z=v_)
theorem isNm_st {d:D}(h:isNm d=v_):∃z,d= .str z/\nm z=true:=by
 cases d with
 |str z=>exact[z:1:h]
 |_=>cases h
variable {own:Str}{n:Nat}{r:Rw}{e:D}
theorem rowO_sh {B:Str->D}{p:Int}(hr:jS n 300 r)(h:Tr B)(O:rowO own r B p= .stop e):ThS e:=by
 unfold rowO at O;erw[id hr,ks,hk,hp];erw[r,U,ps];by_cases c1:U∈MKR
 ·rw [Aa c1] at O;simp only at O;generalize made U B own ps=dm at O;have aa:(if isT dm=v_ then Out.go (setB B (b0 ps) dm) (p+1) else .stop (flt "big"))= .stop e->ThS e:=by
   intro hq;by_cases c:isT dm=v_
   ·rw [Aa c] at hq;cases hq
   ·rw [A2 c] at hq;cases hq;exact .inl ⟨0⟩
  cases dm with
  |non=>cases O;exact .inl ⟨0⟩
  |_=>exact aa O
 rw [A2 c1] at O;by_cases c2:U∈ASK
 ·rw [Aa c2] at O;cases O;erw[wN _ hk c2,_,_,ek];simp only at ek;subst ek;erw[wD hp,z0,z1,rfl,h0,h1];have hT:=h z1 h1;show ThS (askF U (B z1));unfold askF;by_cases d1:U="names"
  ·rw [Aa d1];by_cases Z:isStr (B z1)=v_
   ·rw [Aa Z];obtain⟨z,ez⟩:∃z,B z1= .str z:=by
     cases hb:B z1 with
     |str z=>exact[z:1]
     |_=>rw [hb] at Z;cases Z
    rw [ez] at hT⊢;exact .inr (.inr ⟨_,z,1,hT,.inl rfl⟩)
   ·rw [A2 Z];exact .inl ⟨0⟩
  ·rw [A2 d1];by_cases Z:isNm (B z1)=v_
   ·rw [Aa Z];erw[isNm_st Z,z,ez,hz];rw [ez] at hT⊢;refine .inr (.inr ⟨_,z,1,hT,.inr [?_:hz]⟩);split
    ·exact .inl rfl
    ·exact .inr rfl
   ·rw [A2 Z];exact .inl ⟨0⟩
 rw [A2 c2] at O;by_cases c3:U="say"
 ·rw [Aa c3] at O;cases O;subst c3;have ek:=frm_say _ hk rfl;simp only at ek;subst ek;erw[sh_b hp,z0,rfl,h0];exact .inr (.inl [0:h z0 h0])
 rw [A2 c3] at O;by_cases c4:U="fault"
 ·rw [Aa c4] at O;cases O;exact .inl ⟨0⟩
 rw [A2 c4] at O;by_cases c5:jump U B ps=v_
 ·rw [Aa c5] at O;cases O
 ·rw [A2 c5] at O;cases O
theorem runS_sh {rs:oj Rw}{own:Str}(U:ya rs):∀(f:Nat) (B:Str->D) (p:Int) (n:Nat) (gs:oj D),Tr B->1<=p->p<=rs.length+1->ThS (runS rs own gs f B p n).th
 |0,B,p,n,gs,hT,h1,h2=>by
  show ThS (if p>rs.length then flt "silent" else flt "long")
  split<;>exact .inl ⟨0⟩
 |f+1,B,p,n,gs,hT,h1,h2=>by
  unfold runS;by_cases c:p>rs.length
  ·rw [Aa c];exact .inl ⟨0⟩
  ·rw [A2 c];have O:=U.ok _ (kG h1 ())
   have hok:=rowO_ok (own:=own) O hT h1 ()
   cases Z:rowO own (jW rs p) B p with
   |go B' p'=>
    rw [Z] at hok;exact runS_sh U f B' p' (n+1) gs hok.1 hok.2.1 hok.2.2
   |stop e=>exact rowO_sh O hT Z
variable {rs:oj Rw}
theorem ansS_sh (O:ya rs){r:Rn}{a:D}(h:RnOk rs r)(U:QS r.th=v_)(ha:zg a):ThS (ansS rs own r a).th:=by
 erw[h.ask U,k1,_];unfold ansS;cases hn:ZR a with
 |true=>rw [Aa rfl];exact .inl ⟨0⟩
 |false=>
  rw [A2 u5];have Z:isT a=true:=by
   rcases ha with rfl|ha
   ·cases hn
   ·exact ha
  exact runS_sh O _ _ _ _ _ (kS h.tr Z) (by have:=h.p1;omega) ()
theorem runS_n {rs:oj Rw}{own:Str}:∀(f:Nat) (B:Str->D) (p:Int) (n:Nat) (gs:oj D),QS (runS rs own gs f B p n).th=v_->1<=f/\n<=(runS rs own gs f B p n).n
 |0,B,p,n,gs,h=>by
  have h:QS (if p>rs.length then flt "silent" else flt "long")=true:=h
  split at h<;>exact absurd h ()
 |f+1,B,p,n,gs,h=>by
  exists ()
  unfold runS at h⊢;by_cases c:p>rs.length
  ·rw [Aa c] at h;exact absurd h (show¬QS (flt "silent")=v_ by decide+kernel)
  ·rw [A2 c] at h⊢;cases U:rowO own (jW rs p) B p with
   |go O p'=>
    rw [U] at h;have:=(runS_n f O p' (n+1) gs h).2;show n<=(runS rs own gs f O p' (n+1)).n;omega
   |stop e=>
    show n<=(if QS e=v_ then n else n+1)
    split<;>omega
theorem ansS_n {r:Rn}{a:D}(h:QS (ansS rs own r a).th=v_):r.n+1<300/\r.n+1<=(ansS rs own r a).n:=by
 unfold ansS at h⊢;cases hn:ZR a with
 |true=>rw [hn,Aa rfl] at h;exact absurd h (show¬QS (flt "lack")=v_ by decide+kernel)
 |false=>
  rw [hn,A2 u5] at h;rw [A2 u5];have:=runS_n _ _ _ _ _ h;exact[():this.2]
structure Gp where
 n:Str
 mb:D
 ra:oj D
 run:om (oj Rw×Rn)
 en:om D
def enOf (r:Rn):om D:=if QS r.th=v_ then U_ else u_ r.th
def begP (g:Gp)(d:D):Gp:=if ZR d=v_ then{g with en:=u_ (flt "lack")} else match Q7 d with
 |none=>{g with en:=u_ (flt "rule")}
 |some rs=>{g with run:=u_ (rs,R0 rs g.n),en:=enOf (R0 rs g.n)}
def Yn (g:Gp)(d:D):Gp:=match g.run with
 |none=>begP {g with ra:= [.tup [.tup [.str "rule",g.mb],d]]} d
 |some (rs,r)=>{g with run:=u_ (rs,ansS rs g.n r d),en:=enOf (ansS rs g.n r d)}
def yP (g:Gp):D:=match g.run with
 |none=> .tup [.str "rule",g.mb]
 |some (_,r)=>X4 r.th
def JV (qs:oj (Str×D))(k z:Str):D:=if k="has" then .str (if z∈qs.map (·.1) then "yes" else "no") else rowT (rowG [] ((qs.map (·.1)).filter λy=>g_ y z))
def isHN (k:Str):Bool:=decide (k="has")||decide (k="names")
def QU (g:Gp):om Str:=match yP g with
 | .tup [.str k,.str z]=>if isHN k=v_ then U_ else u_ z
 |_=>U_
def ownP (qs:oj (Str×D))(g:Gp):Gp:=match yP g with
 | .tup [.str k,.str z]=>Yn g (JV qs k z)
 |_=>{g with en:=u_ (flt "name")}
def xm:D->om D
 | .tup [.str k,v]=>if k="said" then u_ v else U_
 |_=>U_
def Zr (g:Gp):om D:=g.en.bind xm
def stkP (g:Gp)(m:Str):Gp:={g with en:=u_ (.tup [.str "stuck",.str m])}
def lftP (g:Gp):Nat:=match g.en with
 |some _=>0
 |none=>match g.run with
  |none=>302
  |some (_,r)=>1+(300-r.n)
def g0D (m:Str):D->om Gp
 | .tup [.str k,e]=>if k="leaf" then U_ else if k="made" then u_ ⟨m,e,[],U_,U_⟩ else u_ (begP ⟨m,.non,[],U_,U_⟩ e)
 |_=>U_
def onceD:D->om D
 | .tup [.str _,e]=>u_ e
 |_=>U_
def SyP (qs:oj (Str×D)):Sy:=⟨Gp,λg=>g.en.isSome,QU,ownP qs,λg a=>Yn g (a.getD .non),stkP,Zr,λm=>g0D m (qy qs m),λm=>onceD (qy qs m),lftP,(302),qs.map (·.1)⟩
variable {g:Gp}
theorem lft_beg (h:g.run=U_)(d:D):g.en=U_->lftP (begP g d)<302:=by
 intro O;unfold begP;split
 ·show(0:Nat)<302;omega
 ·cases U:Q7 d with
  |none=>show(0:Nat)<302;omega
  |some rs=>
   show(match enOf (R0 rs g.n) with|some _=>0|none=>1+(300-(R0 rs g.n).n))<302
   cases enOf (R0 rs g.n) with
   |some d=>show(0:Nat)<302;omega
   |none=>show(1+(300-(R0 rs g.n).n):Nat)<302;omega
theorem lft_take (O:g.en=U_)(d:D):lftP (Yn g d)<lftP g:=by
 unfold Yn;cases U:g.run with
 |none=>
  have e:lftP g=302:=by unfold lftP;rw [O,U]
  rw [e];exact lft_beg (g:=⟨g.n,g.mb,[.tup [.tup [.str "rule",g.mb],d]],U_,g.en⟩) rfl d O
 |some p=>
  erw[p,rs,r];have e:lftP g=1+(300-r.n):=by unfold lftP;rw [O,U]
  rw [e];show(match enOf (ansS rs g.n r d) with|some _=>0|none=>1+(300-(ansS rs g.n r d).n))<_
  unfold enOf;by_cases c:QS (ansS rs g.n r d).th=v_
  ·rw [Aa c];have:=ansS_n c;show 1+(300-(ansS rs g.n r d).n)<1+(300-r.n);omega
  ·rw [A2 c];show 0<1+(300-r.n);omega
variable {qs:oj (Str×D)}{z:Str}
theorem yE (h:z∉qs.map (·.1)):qy qs z= .non:=by
 unfold qy;have:(qs.find? λp=>decide (p.1=z))=none:=by
  rw [Ur];intro p O e;exact h (Ag.mpr [p:O:uA e])
 rw [this]
 rfl
theorem QI (qs:oj (Str×D)):(SyP qs).Ok where
 fs:=λ_ _=>rfl
 ss:=λg m=>by
  show xm (.tup [.str "stuck",.str m])=U_;unfold xm;exact A2 ()
 sf:=λg v h=>by
  have h:Zr g=u_ v:=h;unfold Zr at h;show g.en.isSome=v_;cases O:g.en with
  |none=>rw [O] at h;cases h
  |some d=>rfl
 lo:=λg U Z=>by
  have O:g.en=none:=by
   cases O:g.en with
   |none=>rfl
   |some d=>have U:g.en.isSome=false:=U;rw [O] at U;cases U
  show lftP (ownP qs g)<lftP g;unfold ownP;split
  ·exact lft_take O _
  ·have:0<lftP g:=by
    unfold lftP;rw [O];simp only;split<;>omega
   exact this
 lt:=λg m a U Z=>by
  have O:g.en=none:=by
   cases O:g.en with
   |none=>rfl
   |some d=>have U:g.en.isSome=false:=U;rw [O] at U;cases U
  exact lft_take O _
 lk:=λg m U=>by
  have O:g.en=none:=by
   cases O:g.en with
   |none=>rfl
   |some d=>have U:g.en.isSome=false:=U;rw [O] at U;cases U
  show 0<lftP g;unfold lftP;rw [O];simp only;split<;>omega
 l0:=λm g h=>by
  have h:g0D m (qy qs m)=u_ g:=h;show lftP g<=302;unfold g0D at h;split at h
  ·split at h
   ·cases h
   ·split at h
    ·cases h;exact uj _
    ·cases h;exact Uv (lft_beg rfl _ rfl)
  ·cases h
 gn:=λm g h=>by
  have h:g0D m (qy qs m)=u_ g:=h;show m∈qs.map (·.1);by_cases c:m∈qs.map (·.1)
  ·exact c
  ·rw [yE c] at h;cases h
def EnS (d:D):Prop:=(∃z,d=flt z)∨(∃e,d= .tup [.str "said",e]/\isT e=v_)∨∃z,d= .tup [.str "stuck",.str z]
structure GI (g:Gp):Prop where
 n:nm g.n=v_
 run:∀rs r,g.run=u_ (rs,r)->ya rs/\RnOk rs r/\ThS r.th/\(g.en=U_->QS r.th=v_)
 no:g.run=U_->g.en=U_->∃z,g.mb= .str z/\nm z=v_
 en:∀d,g.en=u_ d->EnS d
 ra:nL g.ra=v_/\dpL g.ra<=30/\g.ra.length<=1
theorem en_of {r:Rn}(h:ThS r.th){d:D}(e:enOf r=u_ d):EnS d:=by
 unfold enOf at e;by_cases c:QS r.th=v_
 ·rw [Aa c] at e;cases e
 ·rw [A2 c] at e;cases e;rcases h with h|h|⟨u,z,h,_⟩
  ·exact .inl h
  ·exact .inr (.inl h)
  ·rw [h] at c;exact absurd (show decide (("asks":Str)="asks")=v_ from uf rfl) c
theorem en_none {r:Rn}(e:enOf r=U_):QS r.th=true:=by
 unfold enOf at e;by_cases c:QS r.th=v_
 ·exact c
 ·rw [A2 c] at e;cases e
theorem R0_sh {n:Str}(h:ya rs):ThS (R0 rs n).th:=runS_sh h 300 B0 1 0 [] B0_tr () (by have:=h.n0;omega)
theorem gi_beg (d:D)(h1:nm g.n=v_)(h2:g.run=U_)(h3:nL g.ra=v_/\dpL g.ra<=30/\g.ra.length<=1):GI (begP g d):=by
 unfold begP;split
 ·exact⟨h1,λrs r e=>(by rw [show g.run=u_ (rs,r) from e] at h2;cases h2),(λ_ e=>by cases e),λd e=>by cases e;exact .inl ⟨0⟩,h3⟩
 ·cases U:Q7 d with
  |none=>exact⟨h1,λrs r e=>(by rw [show g.run=u_ (rs,r) from e] at h2;cases h2),(λ_ e=>by cases e),λd e=>by cases e;exact .inl ⟨0⟩,h3⟩
  |some rs=>
   have O:=(read_rule U).2;exact⟨h1,λZ r e=>by cases e;exact⟨O,R0_ok O,R0_sh O,λe=>en_none e⟩,λe _=>(by cases e),λd e=>en_of (R0_sh O) e,h3⟩
theorem gi_take (h:GI g)(U:g.en=U_){d:D}(ha:zg d):GI (Yn g d):=by
 unfold Yn;cases Z:g.run with
 |none=>
  erw[h.no Z U,z,hz,_];refine gi_beg d h.n rfl ?_;have O:nD d=v_/\dp d<=12:=by
   rcases ha with rfl|ha
   ·exact⟨1,by simp [dp]⟩
   ·exact[WE (yt ha):J0 ha]
  rw [hz];refine[?_:?_:uj _]
  ·simp![nL,nD,O.1,vU]
  ·simp![dpL,dp];have:=O.2;omega
 |some p=>
  erw[p,rs,r];erw[h.run rs r Z,k1,k2,k3,k4];have hs:=ansS_sh (own:=g.n) k1 k2 (k4 U) ha;exact⟨h.n,λaa r' e=>by cases e;exact⟨k1,ansS_ok k1 k2 (k4 U) ha,hs,λe=>en_none e⟩,λe _=>(by cases e),λd e=>en_of hs e,h.ra⟩
theorem gi_stk (h:GI g)(m:Str):GI (stkP g m):=⟨h.n,λrs r e=>⟨(h.run rs r e).1,(h.run rs r e).2.1,(h.run rs r e).2.2.1,(λz=>by cases z)⟩,(λ_ e=>by cases e),λd e=>by cases e;exact .inr (.inr [m:1]),h.ra⟩
theorem rowG_tree:∀(zs O:oj Str),isT (rowT O)=v_->isT (rowT (rowG O zs))=v_
 | [],O,h=>h
 |z::r,O,h=>by
  unfold rowG;split
  ·rename_i c;exact rowG_tree r _ c
  ·exact h
theorem look_ok (U:Qn qs){k:Str}(z:Str)(hk:isHN k=v_):isT (JV qs k z)=v_/\ansB k (JV qs k z)=true:=by
 unfold JV;by_cases c:k="has"
 ·rw [Aa c,c];split<;>exact[():()]
 ·rw [A2 c];have O:isT (rowT (rowG [] ((qs.map (·.1)).filter λy=>g_ y z)))=true:=rowG_tree _ [] ()
  exists O;have Z:isRow (rowT (rowG [] ((qs.map (·.1)).filter λy=>g_ y z)))=true:=by
   show List.all (HU D.str _) isNm=v_;rw [U4];intro x hx;erw[Ag.mp hx,y,hy,rfl];rcases rowG_mem _ _ _ hy with h|h
   ·cases h
   ·exact U.1.1.1 y (Ah.mp h).1
  unfold ansB;rw [A2 (show¬ZR (rowT _)=v_ from u5),Aa O,A2 c,Z,Bool.or_true]
theorem JH (h:GI g)(he:g.en=U_)(U:QU g=U_):∃rs r k z,g.run=u_ (rs,r)/\r.th= .tup [.str "asks",.tup [.str k,.str z]]/\isHN k=v_/\isT (.str z)=v_/\ownP qs g=Yn g (JV qs k z):=by
 unfold QU at U;cases Z:g.run with
 |none=>
  erw[h.no Z he,z,hz,_];have e:yP g= .tup [.str "rule",.str z]:=by unfold yP;rw [Z,hz]
  rw [e] at U;simp![show isHN "rule"=V9 by decide+kernel,A2 u5] at U
  cases U
 |some p=>
  erw[p,rs,r];erw[h.run rs r Z,k1,k2,k3,k4];have O:=k4 he;rcases k3 with⟨z,e⟩|⟨d,e,_⟩|⟨u,z,e,ht,hu⟩
  ·rw [e] at O;exact absurd O (by show¬decide (("fault":Str)="asks")=v_;decide+kernel)
  ·rw [e] at O;exact absurd O (by show¬decide (("said":Str)="asks")=v_;decide+kernel)
  ·have e2:yP g= .tup [.str u,.str z]:=by unfold yP;rw [Z];show X4 r.th=_;rw [e];rfl
   rw [e2] at U;simp only at U;cases hk:isHN u with
   |false=>rw [hk,A2 u5] at U;cases U
   |true=>exact⟨rs,r,u,z,1,e,hk,ht,by unfold ownP;rw [e2]⟩
variable {m:Str}
theorem jj (h:GI g)(he:g.en=U_)(O:QU g=u_ m):nm m=v_/\((g.run=U_/\g.mb= .str m)∨∃rs r,g.run=u_ (rs,r)/\r.th= .tup [.str "asks",.tup [.str "thing",.str m]]):=by
 unfold QU at O;cases Z:g.run with
 |none=>
  erw[h.no Z he,z,hz,hn];have e:yP g= .tup [.str "rule",.str z]:=by unfold yP;rw [Z,hz]
  rw [e] at O;simp![show isHN "rule"=V9 by decide+kernel,A2 u5] at O
  cases O;exact[hn:.inl [1:hz]]
 |some p=>
  erw[p,rs,r];erw[h.run rs r Z,k1,k2,k3,k4];have U:=k4 he;rcases k3 with⟨z,e⟩|⟨d,e,_⟩|⟨u,z,e,ht,hu⟩
  ·rw [e] at U;exact absurd U (by show¬decide (("fault":Str)="asks")=v_;decide+kernel)
  ·rw [e] at U;exact absurd U (by show¬decide (("said":Str)="asks")=v_;decide+kernel)
  ·have e2:yP g= .tup [.str u,.str z]:=by unfold yP;rw [Z];show X4 r.th=_;rw [e];rfl
   rw [e2] at O;simp only at O;rcases hu with rfl|⟨rfl|rfl,hn⟩
   ·rw [Aa ()] at O;cases O
   ·rw [A2 ()] at O
    cases O;exact[hn:.inr ⟨rs,r,1,e⟩]
   ·rw [Aa ()] at O;cases O
theorem gi_own (U:Qn qs)(h:GI g)(O:g.en=U_)(Z:QU g=U_):GI (ownP qs g):=by
 erw[JH (qs:=qs) h O Z,rs,r,k,z,_,_,hk,_,e];rw [e];exact gi_take h O (.inr (look_ok U z hk).1)
theorem zX (U:Qn qs)(h:m∈qs.map (·.1)):nm m=v_/\∃k e,qy qs m= .tup [.str k,e]/\(k="made"->∃z,e= .str z/\nm z=v_)/\(k≠"made"->(k="leaf"∨k="rule")/\isT e=v_):=by
 have hs:=U.1.2 _ (dat_mem U.1.1.2 h);erw[hs,[k,e,O],h2,_];have O:qy qs m= .tup [.str k,e]:=O;have h2:Km (qy qs m)=true:=h2;rw [O] at h2;have e1:Km (.tup [.str k,e])=if eqD (.str k) (.str "made")=v_ then isNm e else(eqD (.str k) (.str "leaf")||eqD (.str k) (.str "rule"))&&isT e:=rfl
 rw [e1] at h2;have Z:∀y:Str,eqD (.str k) (.str y)=decide (k=y):=λy=>rfl;rw [Z,Z,Z] at h2;refine⟨U.1.1.1 m h,k,e,O,λc=> ?_,λc=> ?_⟩
 ·rw [uf c,Aa rfl] at h2;exact isNm_st h2
 ·rwa [uh c,A2 u5,uw,Hg,vj,vj] at h2
theorem gi_g0 (U:Qn qs)(h:g0D m (qy qs m)=u_ g):GI g/\g.n=m:=by
 have hm:m∈qs.map (·.1):=(QI qs).gn m g h;erw[zX U hm,hn,k,e,hd,h1,h2];rw [hd] at h;unfold g0D at h;simp only at h;have O:nL ([]:oj D)=v_/\dpL ([]:oj D)<=30/\([]:oj D).length<=1:=⟨1,by simp [dpL],vf _⟩
 split at h
 ·cases h
 ·split at h
  ·rename_i c
   cases h;erw[h1 c,z,rfl,Z];exact⟨⟨hn,λrs r e=>(by cases e),λ_ _=>[z:1:Z],λd e=>(by cases e),O⟩,1⟩
  ·cases h;exists gi_beg e hn rfl O;unfold begP;split
   ·rfl
   ·split<;>rfl
theorem said_ok (h:GI g){v:D}(e:Zr g=u_ v):isT v=true:=by
 unfold Zr at e;cases O:g.en with
 |none=>rw [O] at e;cases e
 |some d=>
  rw [O] at e;have e:xm d=u_ v:=e;rcases h.en d O with⟨z,rfl⟩|⟨x,rfl,U⟩|⟨z,rfl⟩
  ·exact absurd e (by unfold xm flt;simp only;rw [A2 ()];exact λh=>by cases h)
  ·have Z:xm (.tup [.str "said",x])=u_ x:=by unfold xm;dsimp only;exact Aa rfl
   rw [Z] at e;cases e;exact U
  ·exact absurd e (by unfold xm;simp only;rw [A2 ()];exact λh=>by cases h)
theorem take_n (g:Gp)(d:D):(Yn g d).n=g.n:=by
 unfold Yn;split
 ·unfold begP;split
  ·rfl
  ·split<;>rfl
 ·rfl
theorem own_n (qs:oj (Str×D))(g:Gp):(ownP qs g).n=g.n:=by
 unfold ownP;split
 ·exact take_n _ _
 ·rfl
def SGI {qs:oj (Str×D)}(S:Sy.Ss (SyP qs)):Prop:=∀p:Str×Gp,p∈S.stk∨p∈S.don->GI p.2/\p.2.n=p.1
theorem yet_ok (Z:Qn qs){S:Sy.Ss (SyP qs)}(h:SGI S){a:om D}(e:Sy.yet S m=u_ (u_ a)):zg (a.getD .non):=by
 unfold Sy.yet at e;split at e
 ·cases e
 ·split at e
  ·rename_i O
   cases e;have O:g0D m (qy qs m)=none:=O;show zg ((onceD (qy qs m)).getD .non);by_cases hm:m∈qs.map (·.1)
   ·erw[zX Z hm,hn,k,e,hd,h1,h2];rw [hd] at O⊢;unfold g0D at O;simp only at O;by_cases c:k="leaf"
    ·exact .inr (h2 (by rw [c];decide+kernel)).2
    ·rw [A2 c] at O;split at O<;>cases O
   ·rw [yE hm];exact .inl rfl
  ·cases hd:Sy.YM S.don m with
   |none=>rw [hd] at e;cases e
   |some g=>
    rw [hd] at e;have e:(Zr g).map u_=u_ a:=uK e;cases U:Zr g with
    |none=>rw [U] at e;cases e
    |some v=>
     rw [U] at e;cases e;exact .inr (said_ok (h (m,g) (.inr (Sy.zT hd))).1 U)
theorem nxt_gi (hq:Qn qs){S:Sy.Ss (SyP qs)}(h:SGI S):SGI (Sy.nxt S):=by
 erw[S,stk,don];cases stk with
 |nil=>exact h
 |cons p r=>
  erw[p,n,g];erw[h (n,g) (.inl ug),U,hn];have on:∀g':Gp,GI g'->g'.n=n->SGI #[Y,(n,g')::r,don]:=by
   intro g' h1 h2 p O;rcases O with O|O
   ·rcases Ac.mp O with rfl|O
    ·exact[h1:h2]
    ·exact h p (.inl (ud _ O))
   ·exact h p (.inr O)
  unfold Sy.nxt;simp only;by_cases hf:(SyP qs).fin g=v_
  ·rw [Aa hf];intro p O;rcases O with O|O
   ·exact h p (.inl (ud _ O))
   ·rcases Af.mp O with O|O
    ·exact h p (.inr O)
    ·cases Ae.mp O;exact[U:hn]
  ·rw [A2 hf];have Z:Gp.en g=none:=by
    cases Z:Gp.en g with
    |none=>rfl
    |some d=>exact absurd (show(Gp.en g).isSome=v_ by rw [Z];rfl) hf
   cases hw:(SyP qs).want g with
   |none=>exact on _ (gi_own hq U Z hw) ((own_n qs g).trans hn)
   |some m=>
    simp only;cases hy:Sy.yet #[Y,(n,g)::r,don] m with
    |some o=>
     cases o with
     |some a=>exact on _ (gi_take U Z (yet_ok hq h hy)) ((take_n _ _).trans hn)
     |none=>exact on _ (gi_stk U m) hn
    |none=>
     erw[Sy.JG hy,_,[g',e],_];simp only;rw [e];intro p O;rcases O with O|O
     ·rcases Ac.mp O with rfl|O
      ·exact gi_g0 hq e
      ·exact h p (.inl O)
     ·exact h p (.inr O)
structure Oc where
 (x dx px ls du dr df:o3)
def ofs (o:Oc):oj (Str×V):= [("given_project",.ref o.px),("stack",.ref o.ls),("under_way",.ref o.du),("full_runs",.ref o.dr),("found",.ref o.df)]
def OMT:oj Str:= ["go_through","enter","settle","runner","leave","go_on","answer_yet","begin_anew"]
theorem of_gp (o:Oc):(ofs o).lookup ("given_project":Str)=u_ (.ref o.px):=rfl
theorem of_st (o:Oc):(ofs o).lookup ("stack":Str)=u_ (.ref o.ls):=rfl
theorem of_uw (o:Oc):(ofs o).lookup ("under_way":Str)=u_ (.ref o.du):=rfl
theorem of_fr (o:Oc):(ofs o).lookup ("full_runs":Str)=u_ (.ref o.dr):=rfl
theorem of_fd (o:Oc):(ofs o).lookup ("found":Str)=u_ (.ref o.df):=rfl
theorem Zt (o:Oc):∀m∈OMT,(ofs o).lookup m=none:=by
 intro m hm;simp![OMT,uC,uD,uO] at hm;rcases hm with rfl|rfl|rfl|rfl|rfl|rfl|rfl|rfl<;>rfl
structure Kp (L:oj o3)(H H':Hp):Prop where
 kept:∀b ob,H b=u_ ob->b∉L->H' b=u_ ob
 tk:Tk H H'
variable {L:oj o3}{H H':Hp}
theorem Kp.of (s:Same H H'):Kp L H H':=[λb ob h _=>s b ob h:s.tk]
variable {H1 H2:Hp}
theorem Kp.trans (h:Kp L H H1)(k:Kp L H1 H2):Kp L H H2:=[λb ob e n=>k.kept b ob (h.kept b ob e n) n:h.tk.trans k.tk]
variable {p:o3}
theorem Kp.updD {xs ys:oj (Key×V)}(h:H p=u_ (.dK xs))(O:p∈L):Kp L H (upd H p (.dK ys)):=⟨λb ob e n=>by have nb:b≠p:=(λz=>n (by rwa [z]));rwa [qh nb],Tk.updD h⟩
theorem ww {κ:Type}[DecidableEq κ](k j:κ):∀kvs:oj (κ×V),valV (jm kvs k) j=if j=k then U_ else valV kvs j
 | []=>by show U_=_;split<;>rfl
 |p::r=>by
  by_cases c:p.1=k
  ·rw [dropK_pos c,ww k j r];by_cases d:j=k
   ·rw [Aa d,Aa d]
   ·rw [A2 d,A2 d,QG (λz=>d (z.symm.trans c))]
  ·rw [dropK_neg c];by_cases d:p.1=j
   ·rw [QM d,A2 (λz=>c (d.trans z)),QM d]
   ·rw [QG d,ww k j r,QG d]
variable {C:o3}
theorem Q5.kp {x:o3}(h:Q5 C H x qs)(k:Kp L H H')(Z:∀p∈L,(∃xs,H p=u_ (.lst xs))∨(∃xs,H p=u_ (.dK xs))∨H p=U_):Q5 C H' x qs:=by
 erw[h,dx,d,o,vs,O,U,e3,e4];have n1:x∉L:=λz=>by rcases Z x z with⟨_,e⟩|⟨_,e⟩|e<;>rw [e] at O<;>cases O
 have n2:d∉L:=λz=>by rcases Z d z with⟨_,e⟩|⟨_,e⟩|e<;>rw [e] at U<;>cases U
 exact⟨dx,d,o,vs,k.kept _ _ O n1,k.kept _ _ U n2,e3,e4.mono k.tk⟩
structure OAt (CO CP:o3)(H:Hp)(o:Oc)(qs:oj (Str×D)):Prop where
 e:H o.x=u_ (.ins CO o.dx (ofs o))
 p:Q5 CP H o.px qs
variable {CO CP:o3}
theorem OAt.kp {o:Oc}(h:OAt CO CP H o qs)(k:Kp L H H')(O:∀p∈L,(∃xs,H p=u_ (.lst xs))∨(∃xs,H p=u_ (.dK xs))∨H p=U_):OAt CO CP H' o qs:=by
 refine[k.kept _ _ h.e (λz=> ?_):h.p.kp k O];have U:=h.e;rcases O o.x z with⟨_,e⟩|⟨_,e⟩|e<;>rw [e] at U<;>cases U
def UkOk {qs:oj (Str×D)}(S:Sy.Ss (SyP qs))(uk:oj (Key×V)):Prop:=∀m:Str,(valV uk (Vc m)).isSome=decide (m∈S.stk.map (·.1))
def FdOk {qs:oj (Str×D)}(H:Hp)(S:Sy.Ss (SyP qs))(fk:oj (Key×V)):Prop:=∀(m:Str) (g:Gp),g0D m (qy qs m)=u_ g->
 (∀g':Gp,Sy.YM S.don m=u_ g'->∃v,valV fk (Vc m)=u_ v/\Is H (Yu (g'.en.getD .non)) v)/\(Sy.YM S.don m=U_->valV fk (Vc m)=U_)
variable {fk:oj (Key×V)}
theorem FdOk.mono {S:Sy.Ss (SyP qs)}(h:FdOk H S fk)(t:Tk H H'):FdOk H' S fk:=λm g O=>⟨λg' e=>let⟨v,a,b⟩:=(h m g O).1 g' e;[v:a:b.mono t],(h m g O).2⟩
def ansIs:om (om D)->D->Prop
 |some (u_ v),d=>d= .tup [.str "value",v]
 |some U_,d=>d= .tup [.str "lack"]
 |none,d=>∃k r,d= .tup (.str k::r)/\k≠"value"/\k≠"lack"
def nrg (d:D):Prop:=∃k r,d= .tup (.str k::r)/\(k="value"∨k="lack"∨k="fault"∨k="stuck")
def YetIs {qs:oj (Str×D)}(H:Hp)(S:Sy.Ss (SyP qs))(m:Str)(v:V):Prop:=match Sy.yet S m with
 |none=>v= .non
 |some o=>∃d,Is H d v/\ansIs o d/\(m∉S.stk.map (·.1)->nrg d)
inductive sp_yet (CO CP:Addr) (vs:List V) (H:Hp) (Q:VK) (E_:XK):Prop
 |mk (o:Oc) (m:Str) (qs:List (Str×D)) (S:Sy.Ss (SyP qs)) (uk fk:List (Key×V)) (_:vs= [.ref o.x,.str m]) (_:OAt CO CP H o qs) (_:Qn qs) (_:SGI S) (_:H o.du=u_ (.dK uk)) (_:UkOk S uk) (_:H o.df=u_ (.dK fk)) (_:FdOk H S fk) (_:fk.length<=100000) (_:(∀p∈S.don,(SyP qs).fin p.2=v_)) (_:∀(v:V) (H':Hp) (fk':List (Key×V)),Kp [o.df] H H'->H' o.df=u_ (.dK fk')->FdOk H' S fk'->fk'.length<=fk.length+1->(Sy.yet S m=U_->fk'.length=fk.length)->YetIs H' S m v->Q v H')
inductive sp_anew (CO:Addr) (vs:List V) (H:Hp) (Q:VK) (E_:XK):Prop
 |mk (x dx px:Addr) (_:vs= [.ref x,.ref px]) (_:H x=u_ (.ins CO dx [])) (_:∀(o:Oc) (H':Hp),o.x=x->o.dx=dx->o.px=px->(∀b ob,H b=u_ ob->b≠x->H' b=u_ ob)->Tk H H'->H o.ls=U_->H o.du=U_->H o.dr=U_->H o.df=U_-> [o.ls,o.du,o.dr,o.df].Nodup->H' x=u_ (.ins CO dx (ofs o))->H' o.ls=u_ (.lst [])->H' o.du=u_ (.dK [])->H' o.dr=u_ (.dK [])->H' o.df=u_ (.dK [])->Q .non H')
inductive sp_leave (vs:List V) (H:Hp) (Q:VK) (E_:XK):Prop
 |mk (x:_) (y:_) (_:vs= [x,y]) (_:Q .non H)
theorem once_ans (O:Qn qs)(h:g0D m (qy qs m)=U_):∃k,wl (qy qs m)= .tup k/\ansIs (u_ (onceD (qy qs m))) (.tup k)/\nrg (.tup k):=by
 by_cases hm:m∈qs.map (·.1)
 ·erw[zX O hm,hn,k,e,hd,h1,h2];rw [hd] at h⊢;unfold g0D at h;simp only at h;by_cases c:k="leaf"
  ·refine⟨[.str "value",e],?_,1,[_:0:.inl rfl]⟩;unfold wl;simp only;exact Aa c
  ·rw [A2 c] at h;split at h<;>cases h
 ·rw [yE hm];exact[0:1:[_:0:.inr (.inl rfl)]]
theorem once_no (O:Qn qs)(h:g0D m (qy qs m)=u_ g):wl (qy qs m)= .non:=by
 erw[zX O ((QI qs).gn m g h),hn,k,e,hd,h1,h2];rw [hd] at h⊢;unfold g0D at h;simp only at h;by_cases c:k="leaf"
 ·rw [Aa c] at h;cases h
 ·unfold wl;simp only;exact A2 c
theorem ans_of (h:GI g)(hf:g.en.isSome=v_):ansIs ((Zr g).map u_) (Yu (g.en.getD .non)):=by
 cases Z:g.en with
 |none=>rw [Z] at hf;cases hf
 |some d=>
  unfold Zr;rw [Z];show ansIs ((xm d).map u_) (Yu d);rcases h.en d Z with⟨z,rfl⟩|⟨x,rfl,hx⟩|⟨z,rfl⟩
  ·have O:xm (flt z)=none:=by unfold xm flt;dsimp only;exact A2 ()
   have U:Yu (flt z)=flt z:=by unfold Yu flt;dsimp only;exact A2 ()
   rw [O,U];exact⟨"fault",[.str z],1,(),()⟩
  ·have O:xm (.tup [.str "said",x])=u_ x:=by unfold xm;dsimp only;exact Aa rfl
   have U:Yu (.tup [.str "said",x])= .tup [.str "value",x]:=by unfold Yu;dsimp only;exact Aa rfl
   rw [O,U];exact rfl
  ·have O:xm (.tup [.str "stuck",.str z])=none:=by unfold xm;dsimp only;exact A2 ()
   have U:Yu (.tup [.str "stuck",.str z])= .tup [.str "stuck",.str z]:=by unfold Yu;dsimp only;exact A2 ()
   rw [O,U];exact⟨"stuck",[.str z],1,(),()⟩
theorem ans_nrg (h:GI g)(U:g.en.isSome=v_):nrg (Yu (g.en.getD .non)):=by
 cases Z:g.en with
 |none=>rw [Z] at U;cases U
 |some d=>
  show nrg (Yu d);rcases h.en d Z with⟨z,rfl⟩|⟨x,rfl,hx⟩|⟨z,rfl⟩
  ·have O:Yu (flt z)=flt z:=by unfold Yu flt;dsimp only;exact A2 ()
   rw [O];exact[_:0:.inr (.inr (.inl rfl))]
  ·have O:Yu (.tup [.str "said",x])= .tup [.str "value",x]:=by unfold Yu;dsimp only;exact Aa rfl
   rw [O];exact[_:0:.inl rfl]
  ·have O:Yu (.tup [.str "stuck",.str z])= .tup [.str "stuck",.str z]:=by unfold Yu;dsimp only;exact A2 ()
   rw [O];exact[_:0:.inr (.inr (.inr rfl))]
section
variable {P:o9}{w:og}{K:o0}{mg:Str->om o6}{base:o8}{a:Ad}{g:Ga}
theorem ok_leave (T:Tx K mg a):#[K,1,a.YN,a.YS,["self","going"],sp_leave]:=by
 exists 9,T.g_PlainOrder_leave,xg,O
 erw[h,x,y,rfl,q];exists 3,%[|ps_pass]
 exact q
theorem ok_anew (T:Tx K mg a):#[K,1,a.yx,a.yu,["self","project"],(sp_anew a.qm)]:=by
 exists 9,T.g_PlainOrder_begin_anew,jd
 erw[h,x,dx,px,rfl,hx,q];have hs:=uF;exists 3,%[#[Qg,pv 1],#[Qg,#[Qw,qc]],#[Qg,ZA],#[Qg,ZA]|#[Qg,ZA]]
 exists 0,0,x,_,dx,0,hx,T.qw,T.Qf,()
 exists 5
 refine[(sml rfl):λU h1=> ?_];have n1:x≠U:=ql qg h1
 exists 5
 refine⟨0,x,_,dx,0,(qh n1).trans qg,T.qw,T.QB,by show 1<1000;decide,?_⟩
 intro Z h2;have n2:x≠Z:=ql qg h2
 exists 5
 refine⟨0,x,_,dx,0,(qh n2).trans qg,T.qw,T.Qx,by show 2<1000;decide,?_⟩
 intro l3 h3;have n3:x≠l3:=ql qg h3
 exists 5
 refine⟨0,x,_,dx,0,(qh n3).trans qg,T.qw,T.Qb,by show 3<1000;decide,?_⟩
 intro l4 h4;have n4:x≠l4:=ql qg h4
 exists 5
 refine⟨0,x,_,dx,0,(qh n4).trans qg,T.qw,T.QC,by show 4<1000;decide,?_⟩
 rw [qh n1.symm] at h1;have O:Z≠U:=λz=>by rw [z,qh n1.symm,qg] at h2;cases h2
 have k2:H Z=none:=by rwa [qh n2.symm,qh O,qh n2.symm] at h2
 have aa:l3≠Z:=λz=>by rw [z,qh n2.symm,qg] at h3;cases h3
 have ac:l3≠U:=λz=>by rw [z,qh n1.symm,qh O.symm,qh n1.symm,qg] at h3;cases h3
 have k3:H l3=none:=by rwa [qh n3.symm,qh aa,qh n3.symm,qh ac,qh n3.symm] at h3
 have ad:l4≠l3:=λz=>by rw [z,qh n3.symm,qg] at h4;cases h4
 have ae:l4≠Z:=λz=>by rw [z,qh n2.symm,qh aa.symm,qh n2.symm,qg] at h4;cases h4
 have af:l4≠U:=λz=>by rw [z,qh n1.symm,qh ac.symm,qh n1.symm,qh O.symm,qh n1.symm,qg] at h4;cases h4
 have k4:H l4=none:=by rwa [qh n4.symm,qh ad,qh n4.symm,qh ae,qh n4.symm,qh af,qh n4.symm] at h4
 have kp:∀b ob,H b=u_ ob->b≠x->(upd (upd (upd (upd (upd (upd (upd (upd (upd H x (.ins a.qm dx (putF "given_project" (V.ref px) []))) U (.lst [])) x (.ins a.qm dx (putF "stack" (V.ref U) (putF "given_project" (V.ref px) [])))) Z (.dK [])) x (.ins a.qm dx (putF "under_way" (V.ref Z) (putF "stack" (V.ref U) (putF "given_project" (V.ref px) []))))) l3 (.dK [])) x (.ins a.qm dx (putF "full_runs" (V.ref l3) (putF "under_way" (V.ref Z) (putF "stack" (V.ref U) (putF "given_project" (V.ref px) [])))))) l4 (.dK [])) x (.ins a.qm dx (putF "found" (V.ref l4) (putF "full_runs" (V.ref l3) (putF "under_way" (V.ref Z) (putF "stack" (V.ref U) (putF "given_project" (V.ref px) []))))))) b=u_ ob:=λb ob h nb=>by
  rwa [qh nb,qh (ql h k4),qh nb,qh (ql h k3),qh nb,qh (ql h k2),qh nb,qh (ql h h1),qh nb]
 refine q ⟨x,dx,px,U,Z,l3,l4⟩ _ rfl rfl rfl kp ?_ h1 k2 k3 k4 ?_ ?_ ?_ ?_ ?_ ?_
 ·exists 5
  refine[λb xs e=>kp b _ e (λz=> ?_):λb xs e=>[xs:kp b _ e (λz=> ?_)]:λb xs e=>[xs:kp b _ e (λz=> ?_)]]<;>(rw [z,hx] at e;cases e)
 ·simp![Ue,uC,uD,uO,V3,V0,vQ,and_true];exact[[O.symm:ac.symm:af.symm]:[aa.symm:ae.symm]:ad.symm]
 ·exact qg
 ·rw [qh n1.symm,qh af.symm,qh n1.symm,qh ac.symm,qh n1.symm,qh O.symm,qh n1.symm];exact qg
 ·rw [qh n2.symm,qh ae.symm,qh n2.symm,qh aa.symm,qh n2.symm];exact qg
 ·rw [qh n3.symm,qh ad.symm,qh n3.symm];exact qg
 ·rw [qh n4.symm];exact qg
theorem ok_oinit (T:Tx K mg a):#[K,2,a.yR,a.jg,["self","project"],(sp_anew a.qm)]:=by
 have U:=#[ok_anew,T];exists 9,T.g_PlainOrder_init,XB,Z
 erw[h,x,dx,px,rfl,O,q];exists 3,%[|#[qY,#[Qi,20,pv 0,T.qw,T.g_PlainOrder_begin_anew.h,U,Z.mono (),T.g_PlainOrder_begin_anew.b,.nil,qA,#v[pv 1],_,_,_]]]
 exact⟨0,x,dx,0,O,1,0,x,dx,px,1,O,q⟩
theorem ok_yet (T:Tx K mg a):#[K,2,a.yr,a.yw,["self","name"],(sp_yet a.qm a.qC)]:=by
 have qR:=#[jG,T];have Zo:=#[ok_once,T];exists 9,T.g_PlainOrder_answer_yet,yp
 erw[h,o,m,qs,S,uk,fk,rfl,hO,hq,hG,ac,hU,aa,hF,hl,Z,k];have hs:=uF;exists 3,%[#[qL,#[pt_cmp,6,#[pc_din,5,QW hr,pv 1,#[qO,5,pv 0,rfl]],_],%[|#[qr,#[qE,#v[qk]]]],qx],#[qD,(2),yp.nd,#[qt,Zo,hr.mono (),T.g_answer_at_once,#v[#[Qi,#[qO,5,pv 0,rfl],T.QZ,T.g_Project_source_of,qR,#v[pv 1]]]]],#[qL,#[qp,Ki,pv 2,qW,qB _],%[|#[Js,#[qO,5,pv 0,rfl],pv 1,pv 2]],qx]|#[qr,#[pe_dget1,7,QW hr,#[qO,5,pv 0,rfl],pv 1,⟨1,1,1,1⟩]]]
 exists 0,0,o.x,_,o.dx,_,0,hO.e,T.qw,T.Qx,of_uw o,o.du,0,DGet.k (k:=Vc m) ac,0;rw [hU m];by_cases c:m∈S.stk.map (·.1)
 ·have ey:Sy.yet S m=u_ none:=by unfold Sy.yet;rw [Aa c]
  refine iteB (uf c) [(sml rfl):λt ht=> ?_];have s1:=qf ht (.tup [V.str "ring"]);refine k _ _ fk (Kp.of s1) (s1 _ _ aa) (hF.mono s1.tk) (GJ _) (λ_=>rfl) ?_;unfold YetIs;rw [ey];exact⟨_,Is.new (ds:= [.str "ring"]) ⟨_,0,yl (),1⟩ ht,⟨"ring",[],1,(),()⟩,λz=>absurd c z⟩
 refine iteN (uh c) ?_
 exists 0,o.x,_,o.dx,_,0,hO.e,T.qw,T.Qf,of_gp o;erw[id hO.p,ad,dp,op,ah,hx,hd,hk,hv]
 exists 5
 refine⟨o.px,ad,0,hx,yq,0,o.px,m,qs,1,hO.p,λv h1 h2=> ?_⟩;have ae:Is H (qy qs m) v:=by
  by_cases cm:m∈qs.map (·.1)
  ·exact h1 cm
  ·rw [h2 cm,yE cm];exact rfl
 exists 5
 refine⟨v,qy qs m,1,ae,?_,λu H1 s1 hu=> ?_⟩
 ·by_cases cm:m∈qs.map (·.1)
  ·erw[zX hq cm,_,k,e,hd,_];exact .inr [k:e:hd]
  ·exact .inl (yE cm)
 have O:=s1 _ _ aa
 exists 0,1,0;cases hg:g0D m (qy qs m) with
 |none=>
  erw[once_ans hq hg,l,e1,e2,e3];rw [e1] at hu;have af:u≠ .non:=X8 hu (by intro z;cases z)
  have ey:Sy.yet S m=u_ (u_ (onceD (qy qs m))):=by have U:=hg;unfold Sy.yet;rw [A2 c,show(SyP qs).g0 m=_ from U];rfl
  refine iteB (by simp [af]) ?_
  have kp:Kp [o.df] H (upd H1 o.df (.dK (putK fk (Vc m) u))):=(Kp.of s1).trans (Kp.updD O ug)
  exists 0,0,o.x,_,o.dx,_,0,s1 _ _ hO.e,T.qw,T.QC,of_fd o,0,o.df,0,DPut.k (k:=Vc m) O ()
  have ag:=hO.kp kp (by intro p hp;cases Ae.mp hp;exact .inr (.inl [_:aa]))
  exists 0,o.x,_,o.dx,_,0,ag.e,T.qw,T.QC,of_fd o,o.df,1,.inl [_:.inl qg],0,_,DGet.k (k:=Vc m) qg;rw [Xk,Aa rfl];refine k _ _ _ kp qg ?_ (yM _ _ _) (λz=>by rw [ey] at z;cases z) ?_
  ·intro m' g' U;rw [Xk,A2 (λz=>by injection z with z;rw [z,hg] at U;cases U)]
   exact(hF.mono kp.tk) m' g' U
  ·unfold YetIs;rw [ey];exact⟨_,(hu.mono (Tk.updD O)),e2,λ_=>e3⟩
 |some g=>
  rw [once_no hq hg] at hu;cases(show u= .non from hu)
  refine iteN (by simp) ?_
  exists 0,o.x,_,o.dx,_,0,s1 _ _ hO.e,T.qw,T.QC,of_fd o,o.df,1,.inl [_:.inl O],0,_,DGet.k (k:=Vc m) O;refine k _ _ fk (Kp.of s1) O (hF.mono s1.tk) (GJ _) (λ_=>rfl) ?_;have ey:Sy.yet S m=(Sy.YM S.don m).map λg=>(Zr g).map some:=by have U:=hg;unfold Sy.yet;rw [A2 c,show(SyP qs).g0 m=_ from U];rfl
  erw[hF m g hg,f1,f2];unfold YetIs;rw [ey];cases hd:Sy.YM S.don m with
  |none=>
   rw [f2 hd];exact rfl
  |some g'=>
   erw[f1 g' hd,y,e1,e2];rw [e1];exact⟨_,e2.mono s1.tk,ans_of (hG (m,g') (.inr (Sy.zT hd))).1 (Z (m,g') (Sy.zT hd)),λ_=>ans_nrg (hG (m,g') (.inr (Sy.zT hd))).1 (Z (m,g') (Sy.zT hd))⟩
structure GRel (g:Gc)(s:Gs)(p:Gp):Prop where
 n:g.n=p.n
 mb:s.mb=p.mb
 ra:s.ra=p.ra
 run:(s.run.map λq=>(q.1.rs,q.2))=p.run
 own:∀mc r,s.run=u_ (mc,r)->mc.own=g.n
 en:s.en=p.en.getD .non
def plcR:om (Mc×Rn)->oj o3
 |none=> []
 |some (mc,_)=> [mc.x,mc.db,mc.dg]
def plc (g:Gc)(s:Gs):oj o3:=g.x::plcR s.run
theorem GRel.none {g:Gc}{s:Gs}{p:Gp}(h:GRel g s p)(e:p.run=U_):s.run=none:=by
 have:=h.run;rw [e] at this;cases O:s.run with
 |none=>rfl
 |some q=>rw [O] at this;cases this
theorem GRel.some {g:Gc}{s:Gs}{p:Gp}(h:GRel g s p){rs:oj Rw}{r:Rn}(e:p.run=u_ (rs,r)):∃mc:Mc,s.run=u_ (mc,r)/\mc.rs=rs/\mc.own=g.n:=by
 have:=h.run;rw [e] at this;cases O:s.run with
 |none=>rw [O] at this;cases this
 |some q=>
  erw[q,mc,U];rw [O] at this;cases this;exact⟨mc,1,1,h.own mc U O⟩
variable {CM:o3}
theorem GoAt.frame {g:Gc}{s:Gs}(h:GoAt C CM H g s)(O:∀b∈plc g s,∀ob,H b=u_ ob->H' b=u_ ob)(t:Tk H H'):GoAt C CM H' g s:=by
 erw[h,dx,fs,mv,av,rv,ev,e,f,i,j,k,l];refine⟨dx,fs,mv,av,rv,ev,O _ ug _ e,f,i.mono t,j.mono t,?_,l.mono t⟩;cases U:s.run with
 |none=>rwa [U] at k
 |some q=>
  erw[q,mc,r];have hp:plc g s= [g.x,mc.x,mc.db,mc.dg]:=by unfold plc plcR;rw [U]
  rw [hp] at O;rw [U] at k;erw[k,k1,k2,dm,fm,Z,ru,tv,gv,em,aa,i1,i2,[bf,ib,jb],i4,i5,i6];exact⟨k1,k2,dm,fm,Z,ru,tv,gv,O _ (by simp) _ em,aa,i1.mono t,i2.mono t,⟨bf,O _ (by simp) _ ib,λz hz=>(jb z hz).mono t⟩,O _ (by simp) _ i4,i5.mono t,i6.mono t⟩
theorem GoAt.there {g:Gc}{s:Gs}(h:GoAt C CM H g s):∀b∈plc g s,∃ob,H b=u_ ob:=by
 erw[h,dx,fs,mv,av,rv,ev,e,f,i,j,k,l];intro b O;rcases Ac.mp O with rfl|O
 ·exact[_:e]
 ·cases U:s.run with
  |none=>rw [U] at O;cases O
  |some q=>
   erw[q,mc,r];rw [U] at O k;erw[k,k1,k2,dm,fm,Z,ru,tv,gv,em,aa,i1,i2,[bf,ib,jb],i4,i5,i6];simp![plcR,uC,uD,uO] at O;rcases O with rfl|rfl|rfl
   ·exact[_:em]
   ·exact[_:ib]
   ·exact[_:i4]
theorem beg_rel {g:Gc}{d:D}{s s':Gs}{p:Gp}(b:BegOk H g d s s')(h:GRel g s p)(U:p.run=U_)(he:p.en=U_):GRel g s' (begP p d)/\∀c∈plc g s',c=g.x∨H c=none:=by
 have hr:=h.none U;have Z:s.en= .non:=by rw [h.en,he];rfl
 have nil:s'.run=U_->∀c∈plc g s',c=g.x∨H c=none:=λe c O=>by
  unfold plc at O;rw [e] at O;rcases Ac.mp O with z|z
  ·exact .inl z
  ·cases z
 unfold begP;by_cases c:d= .non
 ·erw[b.lack c,b1,b2];rw [Aa (by rw [c];rfl)]
  exact⟨⟨h.n,b.mb.trans h.mb,b.ra.trans h.ra,(by show _=p.run;rw [b1,U];rfl),(λmc r e=>by rw [b1] at e;cases e),b2⟩,nil b1⟩
 ·rw [A2 (λz=>c (by cases d with|non=>rfl|_=>cases z))]
  cases hd:Q7 d with
  |none=>
   erw[b.rule c hd,b1,b2];exact⟨⟨h.n,b.mb.trans h.mb,b.ra.trans h.ra,(by show _=p.run;rw [b1,U];rfl),(λmc r e=>by rw [b1] at e;cases e),b2⟩,nil b1⟩
  |some rs=>
   erw[b.go rs hd,mc,c1,c2,c3,c4,c5,c6,c7];refine[⟨h.n,b.mb.trans h.mb,b.ra.trans h.ra,?_,λaa r e=> ?_,?_⟩:λc O=> ?_]
   ·rw [c6];show u_ (mc.rs,R0 rs g.n)=u_ (rs,R0 rs p.n);rw [c4,h.n]
   ·rw [c6] at e;cases e;exact c5
   ·rw [c7,h.n,Z];show _=(enOf (R0 rs p.n)).getD .non;unfold enOf;split<;>rfl
   ·unfold plc at O;rw [c6] at O;simp![plcR,uC,uD,uO] at O;rcases O with z|rfl|rfl|rfl
    ·exact .inl z
    ·exact .inr c1
    ·exact .inr c2
    ·exact .inr c3
def runPG:om (oj Rw×Rn)->oj D
 |none=> []
 |some (_,r)=>r.gs
def Y7 (p:Gp):D:= .tup [.tup (p.ra++runPG p.run),p.en.getD .non]
theorem full_rel {g:Gc}{s:Gs}{p:Gp}(h:GRel g s p):fullD s=Y7 p:=by
 unfold fullD Y7;rw [h.ra,h.en];have e:runG s.run=runPG p.run:=by
  rw [<-h.run];cases s.run with
  |none=>rfl
  |some q=>rfl
 rw [e]
theorem full_len {p:Gp}(h:GI p):p.ra.length+(runPG p.run).length<=1000:=by
 have h1:=h.ra.2.2;cases O:p.run with
 |none=>show _+0<=1000;omega
 |some q=>
  erw[q,rs,r];have h2:=(h.run rs r O).2.1;have h3:=h2.gs.2.2;have h4:=h2.n;show _+r.gs.length<=1000;omega
inductive sp_enter (CO CP CG CM:Addr) (vs:List V) (H:Hp) (Q:VK) (E_:XK):Prop
 |mk (o:Oc) (m:Str) (qs:List (Str×D)) (xs:List V) (uk:List (Key×V)) (p:Gp) (_:vs= [.ref o.x,.str m]) (_:OAt CO CP H o qs) (_:Qn qs) (_:H o.ls=u_ (.lst xs)) (_:xs.length<=100000) (_:H o.du=u_ (.dK uk)) (_:uk.length<=100000) (_:g0D m (qy qs m)=u_ p) (_:∀(g:Gc) (s:Gs) (H':Hp),Kp [o.ls,o.du] H H'->H' o.ls=u_ (.lst (xs++ [.ref g.x]))->H' o.du=u_ (.dK (putK uk (Vc m) (.bl v_)))->GoAt CG CM H' g s->GRel g s p->g.o=o.x->(∀b∈plc g s,H b=U_)->Q .non H')
inductive sp_settle (CO CP CG CM:Addr) (vs:List V) (H:Hp) (Q:VK) (E_:XK):Prop
 |mk (o:Oc) (qs:List (Str×D)) (g:Gc) (s:Gs) (p:Gp) (rk fk:List (Key×V)) (_:vs= [.ref o.x,.ref g.x]) (_:OAt CO CP H o qs) (_:GoAt CG CM H g s) (_:GRel g s p) (_:GI p) (_:p.en.isSome=v_) (_:H o.dr=u_ (.dK rk)) (_:rk.length<=100000) (_:H o.df=u_ (.dK fk)) (_:fk.length<=100000) (_:o.dr≠o.df) (_:o.dr∉plc g s) (_:o.df∉plc g s) (_:∀(v1 v2:V) (H':Hp),Kp [o.dr,o.df] H H'->H' o.dr=u_ (.dK (putK rk (Vc g.n) v1))->Is H' (Y7 p) v1->H' o.df=u_ (.dK (putK fk (Vc g.n) v2))->Is H' (Yu (p.en.getD .non)) v2->Q .non H')
theorem ok_enter (T:Tx K mg a)(C:Fx K w mg g a):#[K,12,a.YT,a.YW,["self","name"],(sp_enter a.qm a.qC a.qM a.qo)]:=by
 have qR:=#[jG,T];have O:=#[ok_ginit,T,C];exists 9,T.g_PlainOrder_enter,xw
 erw[h,o,m,qs,xs,uk,p,rfl,hO,hq,U,ap,Z,aq,hp,k];have hs:=uF;exists 3,%[#[qY,#[YL,uN,vd,ve,yb,#[qO,5,pv 0,rfl],#v[#[zt,T.M_Going,O,hr.mono (),T.m_Going,T.g_Going_init,qA,#v[pv 1,#[Qi,#[qO,5,pv 0,rfl],T.QZ,T.g_Project_source_of,qR,#v[pv 1]],pv 0]]]]]|#[Js,#[qO,5,pv 0,rfl],pv 1,Jh]]
 exists 0,o.x,_,o.dx,_,0,hO.e,T.qw,T.QB,of_st o,.inl [1:_:SqL.of U]
 exists 0,0,o.x,_,o.dx,_,0,hO.e,T.qw,T.Qf,of_gp o;erw[id hO.p,ak,dp,op,au,hx,hd,hk,hv]
 exists 5
 refine⟨o.px,ak,0,hx,yq,0,o.px,m,qs,1,hO.p,λsv h1 h2=> ?_⟩;have hm:m∈qs.map (·.1):=(QI qs).gn m p hp;have af:=h1 hm;erw[zX hq hm,hn,kk,e,al,g1,g2];rw [al] at af hp
 exists 5
 refine[0:λx dx aa ag nx=> ?_];have s0:Same H (upd (upd H dx (.own x)) x (.ins a.qM dx [])):=λb o h=>by rwa [qh (ql h aa),qh (ql h ag)]
 have nox:o.x≠x:=ql hO.e aa
 exists 5
 refine⟨x,dx,o.x,m,kk,sv,e,1,qg,af.mono s0.tk,hn,nox,⟨_,_,s0 _ _ hO.e,Zt o _ ()⟩,λH1 s1 am aw G1 b1 b2=>[1:?_]⟩
 have ac:Same H H1:=λb ob h=>am b ob (s0 b ob h) (ql h aa);have rel:GRel ⟨x,o.x,m⟩ s1 p/\∀c∈plc ⟨x,o.x,m⟩ s1,H c=none:=by
  unfold g0D at hp;simp only at hp;split at hp
  ·cases hp
  ·split at hp
   ·rename_i c
    cases hp;have e1:=b1 c;rw [e1]
    exists 5
    refine⟨⟨1,1,1,1,(λ_ _ z=>by cases z),1⟩,λc hc=> ?_⟩
    rcases Ac.mp hc with rfl|hc
    ·exact aa
    ·cases hc
   ·rename_i c
    cases hp;obtain⟨r1,r2⟩:=beg_rel (p:=⟨m,.non,[],U_,U_⟩) (b2 c) ⟨1,1,1,1,(λ_ _ z=>by cases z),1⟩ rfl rfl
    exists 5
    refine[r1:λc hc=> ?_];rcases r2 c hc with rfl|hc
    ·exact aa
    ·exact s0.free hc
 exists o.ls,xs,0,1,ac _ _ U,()
 have ah:Kp [o.ls,o.du] H1 (upd H1 o.ls (.lst (xs++ [.ref x]))):=⟨λb ob h n=>by rw [qh (λz=>n (by rw [z];exact ug))];exact h,Kept.tk (p:=o.ls) (λb ob h n=>by rwa [qh n]) (ac _ _ U) qg⟩
 have n1:o.du≠o.ls:=λz=>by rw [z,U] at Z;cases Z
 have ad:upd H1 o.ls (.lst (xs++ [.ref x])) o.du=u_ (.dK uk):=by rw [qh n1];exact ac _ _ Z
 have n2:o.x≠o.ls:=λz=>by have:=hO.e;rw [z,U] at this;cases this
 have n3:o.x≠o.du:=λz=>by have:=hO.e;rw [z,Z] at this;cases this
 exists 5
 refine⟨0,o.x,_,o.dx,_,0,(by rw [qh n2];exact ac _ _ hO.e),T.qw,T.Qx,of_uw o,0,o.du,0,DPut.k (k:=Vc m) ad (),?_⟩
 have ao:=((Kp.of (L:= [o.ls,o.du]) ac).trans ah).trans (Kp.updD (ys:=putK uk (Vc m) (.bl v_)) ad (ud _ ug));refine k [x:o.x:m] s1 _ ao (by rw [qh n1.symm];exact qg) qg (G1.frame (λb hb ob h=> ?_) ((ah.trans (Kp.updD (ys:=putK uk (Vc m) (.bl v_)) ad (ud _ ug)))).tk) rel.1 rfl rel.2
 have ae:=rel.2 b hb;have m1:b≠o.ls:=λz=>by rw [z,U] at ae;cases ae
 have m2:b≠o.du:=λz=>by rw [z,Z] at ae;cases ae
 rw [qh m2,qh m1];exact h
theorem ok_settle (T:Tx K mg a):#[K,3,a.YD,a.YH,["self","going"],(sp_settle a.qm a.qC a.qM a.qo)]:=by
 have O:=#[ok_full,T];have U:=#[ok_ansby,T];have Xe:=#[ok_leave,T];exists 9,T.g_PlainOrder_settle,JT
 erw[h,o,qs,g,st,p,rk,fk,rfl,hO,hG,hR,hI,ae,ac,ay,af,aA,ag,nr,nf,k];have hs:=uF;exists 3,%[#[Js,#[qO,5,pv 0,rfl],#[qO,5,pv 1,rfl],#[yg,pv 1,T.qQ,T.g_Going_full,O]],#[Js,#[qO,5,pv 0,rfl],#[qO,5,pv 1,rfl],#[qt,U,hr.mono (),T.g_answer_by,#v[#[qO,5,pv 1,rfl]]]]|#[qY,#[Qi,pv 0,T.qw,T.g_PlainOrder_leave,Xe,#v[pv 1]]]]
 erw[id hG,dx,fs,mv,av,rv,ev,e,f,i,j,aB,l];have aw:o.dr≠g.x:=λz=>nr (by rw [z];exact ug)
 have aC:o.df≠g.x:=λz=>nf (by rw [z];exact ug)
 have ah:o.x≠o.dr:=λz=>by have:=hO.e;rw [z,ac] at this;cases this
 have ak:o.x≠o.df:=λz=>by have:=hO.e;rw [z,af] at this;cases this
 have al:(runG st.run).length=(runPG p.run).length:=by
  have:=full_rel hR;unfold fullD Y7 at this;simp![D.tup.injEq,vx] at this;have:=this.1;rw [hR.ra] at this;rw [List.append_cancel_left this]
 exists 5
 refine⟨0,g.x,dx,fs,1,e,f.meth _ (),g,st,1,hG,(by rw [hR.ra,al];exact full_len hI),λv1 H1 s1 i1=> ?_⟩
 rw [full_rel hR] at i1
 exists 0,o.x,_,o.dx,_,0,s1 _ _ hO.e,T.qw,T.Qb,of_fr o,0,g.x,_,dx,fs,0,s1 _ _ e,T.qQ,T.y9,f.Zc,o.dr,0,DPut.k (k:=Vc g.n) (s1 _ _ ac) ()
 have ad:Kp [o.dr,o.df] H (upd H1 o.dr (.dK (putK rk (Vc g.n) v1))):=(Kp.of s1).trans (Kp.updD (s1 _ _ ac) ug);generalize Z:upd H1 o.dr (.dK (putK rk (Vc g.n) v1))=H2 at ad⊢;have am:H2 o.dr=u_ (.dK (putK rk (Vc g.n) v1)):=by rw [<-Z];exact qg
 have e2:H2 g.x=u_ (.ins a.qM dx fs):=by rw [<-Z,qh aw.symm];exact s1 _ _ e
 have ao:H2 o.x=u_ (.ins a.qm o.dx (ofs o)):=by rw [<-Z,qh ah];exact s1 _ _ hO.e
 have aa:H2 o.df=u_ (.dK fk):=by rw [<-Z,qh ag.symm];exact s1 _ _ af
 have i2:Is H2 (Y7 p) v1:=i1.mono (by rw [<-Z];exact Tk.updD (s1 _ _ ac))
 have l2:Is H2 (p.en.getD .non) ev:=by rw [<-hR.en];exact l.mono ad.tk
 obtain⟨kk,ee,ap⟩:∃kk ee,p.en.getD .non= .tup [.str kk,ee]:=by
  cases aq:p.en with
  |none=>rw [aq] at ae;cases ae
  |some d=>
   rcases hI.en d aq with⟨z,rfl⟩|⟨x,rfl,_⟩|⟨z,rfl⟩
   ·exact[_:0]
   ·exact[_:0]
   ·exact[_:0]
 exists 5
 refine⟨0,g.x,_,dx,fs,0,e2,T.qQ,T.QX,f.f_end,ev,kk,ee,1,(by rwa [<-ap]),λv2 H3 s3 i3=> ?_⟩
 rw [<-ap] at i3
 exists 0,o.x,_,o.dx,_,0,s3 _ _ ao,T.qw,T.QC,of_fd o,0,g.x,_,dx,fs,0,s3 _ _ e2,T.qQ,T.y9,f.Zc,o.df,0,DPut.k (k:=Vc g.n) (s3 _ _ aa) ()
 have au:Tk H3 (upd H3 o.df (.dK (putK fk (Vc g.n) v2))):=Tk.updD (s3 _ _ aa);have ax:Kp [o.dr,o.df] H (upd H3 o.df (.dK (putK fk (Vc g.n) v2))):=(ad.trans (Kp.of s3)).trans (Kp.updD (s3 _ _ aa) (ud _ ug))
 exists 5
 refine⟨0,o.x,o.dx,0,(by rw [qh ak];exact s3 _ _ ao),Zt o _ (),0,_,0,?_⟩
 exact k v1 v2 _ ax (by rw [qh ag];exact s3 _ _ am) (i2.mono (s3.tk.trans au)) qg (i3.mono au)
end
variable {v:V}
theorem no_looked:Vx ("looked_up":Str) [(("by_name":Str),v)]=none:=by rfl
theorem inHN (k:Str):inV (V.str k) [V.str "has",V.str "names"]=isHN k:=by
 have h:=xB k ["has","names"];refine h.trans ?_;unfold isHN;rw [<-Bool.decide_or,uZ];simp
section
variable {C CM CO:o3}{H:Hp}{g:Gc}{s:Gs}{p:Gp}{Q:VK}{E:XK}
theorem want_sp (G:GoAt C CM H g s)(R:GRel g s p)(I:GI p)(O:p.en=U_)(U:QU p=u_ m)(k:∀kd v H',Same H H'->isHN kd=V9->Is H' (.tup [.str kd,.str m]) v->Q v H'):XA C CM [.ref g.x] H Q E:=by
 erw[jj I O U,hn,h];exists g,s,1,G;rcases h with⟨h1,h2⟩|⟨rs,r,h1,h2⟩
 ·exact .inl ⟨R.none h1,m,by rw [R.mb,h2],λv H' s' i=>k _ v H' s' () i⟩
 ·erw[R.some h1,mc,Z,e2,e3];exact .inr ⟨mc,r,_,Z,h2,λv i=>k _ v H (Same.refl _) () i⟩
theorem want_spO (G:GoAt C CM H g s)(R:GRel g s p)(I:GI p)(O:p.en=U_)(U:QU p=U_)(k:∀rs r kd z v,p.run=u_ (rs,r)->r.th= .tup [.str "asks",.tup [.str kd,.str z]]->isHN kd=v_->isT (.str z)=v_->ownP qs p=Yn p (JV qs kd z)->Is H (.tup [.str kd,.str z]) v->Q v H):XA C CM [.ref g.x] H Q E:=by
 erw[JH (qs:=qs) I O U,rs,r,kd,z,h1,h2,h3,h4,h5];erw[R.some h1,mc,Z,e2,e3];exact⟨g,s,1,G,.inr ⟨mc,r,_,Z,h2,λv i=>k rs r kd z v h1 h2 h3 h4 h5 i⟩⟩
theorem take_sp (G:GoAt C CM H g s)(R:GRel g s p)(I:GI p)(Z:p.en=U_){d:D}{v:V}(hv:Is H d v)(U:∀rs r,p.run=u_ (rs,r)->∃u q,r.th= .tup [.str "asks",.tup [.str u,q]]/\ansB u d=v_)(aa:g.o≠g.x)(ho:∃dx fs,H g.o=u_ (.ins CO dx fs)/\fs.lookup ("runner":Str)=U_)
  (k:∀H' s',Gw g s.run H H'->GoAt C CM H' g s'->GRel g s' (Yn p d)->(∀b∈plc g s',b∈plc g s∨H b=U_)->Q .non H'):Xt C CM CO [.ref g.x,v] H Q E:=by
 refine⟨g,s,v,d,1,G,by rw [R.n];exact I.n,hv,aa,ho,?_⟩
 cases O:p.run with
 |none=>
  erw[I.no O Z,z,hz,_];have hr:=R.none O;refine .inl ⟨hr,z,by rw [R.mb,hz],λH' s' w G' b=> ?_⟩
  obtain⟨r1,r2⟩:=beg_rel (p:=⟨p.n,p.mb,[.tup [.tup [.str "rule",p.mb],d]],U_,U_⟩) b ⟨R.n,R.mb,(by show _= [D.tup [.tup [.str "rule",p.mb],d]];rw [hz]),(by show s.run.map _=U_;rw [hr];rfl),R.own,(by show s.en= .non;rw [R.en,Z];rfl)⟩ rfl rfl
  refine k H' s' w G' ?_ λc hc=> ?_
  ·have:Yn p d=begP ⟨p.n,p.mb,[.tup [.tup [.str "rule",p.mb],d]],U_,U_⟩ d:=by
    unfold Yn;rw [O];show begP ⟨p.n,p.mb,_,U_,p.en⟩ d=_;rw [Z]
   rwa [this]
  ·rcases r2 c hc with rfl|h
   ·exact .inl ug
   ·exact .inr h
 |some q=>
  erw[q,rs,r];erw[R.some O,mc,e1,e2,e3];erw[I.run rs r O,k1,k2,k3,k4];erw[U rs r O,u,q,h1,h2];subst e2;refine .inr ⟨mc,r,u,q,e1,e3,k1,k2,h1,h2,λH' w G'=> ?_⟩;have ee:Yn p d={p with run:=u_ (mc.rs,ansS mc.rs p.n r d),en:=enOf (ansS mc.rs p.n r d)}:=by unfold Yn;rw [O]
  refine k H' _ w G' ?_ ?_
  ·rw [ee,e3,R.n];unfold lookS enOf;by_cases c:QS (ansS mc.rs p.n r d).th=v_
   ·rw [Aa c,Aa c];exact⟨R.n,R.mb,R.ra,1,(λac r' z=>by cases z;exact e3),(by show s.en= .non;rw [R.en,Z];rfl)⟩
   ·rw [A2 c,A2 c];exact⟨R.n,R.mb,R.ra,1,(λac r' z=>by cases z;exact e3),1⟩
  ·intro b hb;left;unfold plc at hb⊢;rw [e1];unfold lookS at hb;split at hb<;>exact hb
end
def LO (o:Oc):oj o3:= [o.ls,o.du,o.dr,o.df]
structure Bs (CO CP:o3)(H0:Hp)(o:Oc)(qs:oj (Str×D)):Prop where
 oa:OAt CO CP H0 o qs
 ls:∃xs,H0 o.ls=u_ (.lst xs)
 du:∃xs,H0 o.du=u_ (.dK xs)
 dr:∃xs,H0 o.dr=u_ (.dK xs)
 df:∃xs,H0 o.df=u_ (.dK xs)
 nd:(LO o).Nodup
 q:Qn qs
section
variable {CO CP:o3}{H0 H H':Hp}{o:Oc}{qs:oj (Str×D)}
theorem Bs.at (b:Bs CO CP H0 o qs)(k:Kp (LO o) H0 H):OAt CO CP H o qs:=b.oa.kp k (by
 intro p O;simp![LO,uC,uD,uO] at O;rcases O with rfl|rfl|rfl|rfl
 ·exact .inl b.ls
 ·exact .inr (.inl b.du)
 ·exact .inr (.inl b.dr)
 ·exact .inr (.inl b.df))
theorem Bs.new (b:Bs CO CP H0 o qs){c:o3}(h:H0 c=U_):c≠o.x/\c≠o.ls/\c≠o.du/\c≠o.dr/\c≠o.df:=by
 erw[b.ls,_,h1];erw[b.du,_,h2];erw[b.dr,_,h3];erw[b.df,_,h4];exact⟨(ql b.oa.e h).symm,(ql h1 h).symm,(ql h2 h).symm,(ql h3 h).symm,(ql h4 h).symm⟩
theorem Bs.nlo (b:Bs CO CP H0 o qs){c:o3}(h:H0 c=U_):c∉LO o:=by
 erw[b.new h,_,h1,h2,h3,h4];simp![LO,uC,uD,uO,V3];exact⟨h1,h2,h3,h4⟩
theorem kp_more (b:Bs CO CP H0 o qs)(k:Kp (LO o) H0 H)(h:∀c ob,H c=u_ ob->c∉o.df::L->H' c=u_ ob)(t:Tk H H')(O:∀c∈L,H0 c=U_):Kp (LO o) H0 H':=⟨λc ob e n=>h c ob (k.kept c ob e n) (λz=>by
 rcases Ac.mp z with rfl|z
 ·exact n (by simp [LO])
 ·rw [O c z] at e;cases e),k.tk.trans t⟩
end
section
variable {qs:oj (Str×D)}{n:Str}{p:Gp}{r don:oj (Str×Gp)}
theorem nxt_own (U:p.en=U_)(Z:QU p=U_):Sy.nxt #[Y,(n,p)::r,don]=[(n,ownP qs p)::r:don]:=by
 have hf:(SyP qs).fin p=false:=by show p.en.isSome=V9;rw [U];rfl
 have O:(SyP qs).want p=none:=Z;unfold Sy.nxt;simp only;rw [hf,A2 u5,O]
 rfl
theorem nxt_tk (U:p.en=U_)(Z:QU p=u_ m){a:om D}(hy:Sy.yet #[Y,(n,p)::r,don] m=u_ (u_ a)):Sy.nxt #[Y,(n,p)::r,don]=[(n,Yn p (a.getD .non))::r:don]:=by
 have hf:(SyP qs).fin p=false:=by show p.en.isSome=V9;rw [U];rfl
 have O:(SyP qs).want p=u_ m:=Z;unfold Sy.nxt;simp only;rw [hf,A2 u5,O];simp only;rw [hy]
 rfl
theorem nxt_stk (U:p.en=U_)(Z:QU p=u_ m)(hy:Sy.yet #[Y,(n,p)::r,don] m=u_ U_):Sy.nxt #[Y,(n,p)::r,don]=[(n,stkP p m)::r:don]:=by
 have hf:(SyP qs).fin p=false:=by show p.en.isSome=V9;rw [U];rfl
 have O:(SyP qs).want p=u_ m:=Z;unfold Sy.nxt;simp only;rw [hf,A2 u5,O];simp only;rw [hy]
 rfl
theorem nxt_push (Z:p.en=U_)(hw:QU p=u_ m)(U:Sy.yet #[Y,(n,p)::r,don] m=U_):∃p',g0D m (qy qs m)=u_ p'/\Sy.nxt #[Y,(n,p)::r,don]=[(m,p')::(n,p)::r:don]:=by
 have hf:(SyP qs).fin p=false:=by show p.en.isSome=V9;rw [Z];rfl
 have O:(SyP qs).want p=u_ m:=hw;erw[Sy.JG U,_,[p',e],_];exists p',e;unfold Sy.nxt;simp only;rw [hf,A2 u5,O];simp only;rw [U];simp only;rw [e]
theorem nxt_pop {d:D}(O:p.en=u_ d):Sy.nxt #[Y,(n,p)::r,don]=[r:don++ [(n,p)]]:=by
 have U:(SyP qs).fin p=true:=by show p.en.isSome=v_;rw [O];rfl
 unfold Sy.nxt;simp only;rw [U,Aa rfl]
 rfl
end
theorem ansB_thing {d:D}(h:zg d):ansB "thing" d=true:=by
 unfold ansB;rcases h with rfl|h
 ·rfl
 ·cases hn:ZR d with
  |true=>rfl
  |false=>
   rw [A2 u5,Aa h,A2 ()]
   rfl
structure Rnd {qs:oj (Str×D)}(CG CM:o3)(H0 H H1:Hp)(o:Oc)(S:Sy.Ss (SyP qs))(L0:oj o3)(g:Gc)(s1:Gs)(n:Str)(p1:Gp)(r:oj (Str×Gp))(fk1:oj (Key×V))(top:Nat):Prop where
 st:∃j,#[Y,(n,p1)::r,S.don]=Sy.nx S j
 len:fk1.length+Sy.mu #[Y,(n,p1)::r,S.don]<=top
 kp:∀b ob,H b=u_ ob->b∉o.df::L0->H1 b=u_ ob
 tk:Tk H H1
 df:H1 o.df=u_ (.dK fk1)
 fd:FdOk H1 S fk1
 go:GoAt CG CM H1 g s1
 rel:GRel g s1 p1
 pl:∀b∈plc g s1,b∈L0∨H b=U_/\H0 b=U_
 gi:SGI #[Y,(n,p1)::r,S.don]
inductive sp_gon (CO CP CG CM:Addr) (vs:List V) (H:Hp) (Q:VK) (E_:XK):Prop
 |mk (H0:Hp) (o:Oc) (qs:List (Str×D)) (g:Gc) (s:Gs) (n:Str) (p:Gp) (r don:List (Str×Gp)) (uk fk:List (Key×V)) (top:Nat) (_:vs= [.ref o.x,.ref g.x]) (_:Bs CO CP H0 o qs) (_:Kp (LO o) H0 H) (_:H o.du=u_ (.dK uk)) (_:UkOk #[Y,(n,p)::r,don] uk) (_:(∀q∈don,q.2.en.isSome=v_)) (_:top<=100000) (_:g.o=o.x) (_:(∀b∈plc g s,H0 b=U_)) (_:Rnd CG CM H0 H H o #[Y,(n,p)::r,don] (plc g s) g s n p r fk top) (_:∀(v:V) (H':Hp) (s':Gs) (p':Gp) (fk':List (Key×V)),Rnd CG CM H0 H H' o #[Y,(n,p)::r,don] (plc g s) g s' n p' r fk' top->((v= .non/\p'.en.isSome=v_)∨∃m,v= .str m/\p'.en=U_/\QU p'=u_ m/\Sy.yet #[Y,(n,p')::r,don] m=U_)->Q v H')
theorem Rnd.more {qs:oj (Str×D)}{CG CM CO CP:o3}{H0 H H1 H2 H3:Hp}{o:Oc}{S:Sy.Ss (SyP qs)}{L0:oj o3}{g:Gc}{s1 s3:Gs}{n:Str}{p1 p3:Gp}{r:oj (Str×Gp)}{fk1 U:oj (Key×V)}{top:Nat}(b:Bs CO CP H0 o qs)(k0:Kp (LO o) H0 H)(hL:∀b∈L0,H0 b=U_)(h:Rnd CG CM H0 H H1 o S L0 g s1 n p1 r fk1 top)(k2:Kp [o.df] H1 H2)(f2:H2 o.df=u_ (.dK U))(d2:FdOk H2 S U)(l2:U.length<=fk1.length+1)
  (ac:∀b ob,H2 b=u_ ob->b∉plc g s1->H3 b=u_ ob) (t3:Tk H2 H3) (G3:GoAt CG CM H3 g s3) (R3:GRel g s3 p3) (ae:∀b∈plc g s3,b∈plc g s1∨H2 b=U_) (e:Sy.nxt #[Y,(n,p1)::r,S.don]=[(n,p3)::r:S.don]):
  Rnd CG CM H0 H H3 o S L0 g s3 n p3 r U top/\Sy.mu #[Y,(n,p3)::r,S.don]<Sy.mu #[Y,(n,p1)::r,S.don]:=by
 have ad:=Sy.nxt_mu (QI qs) (S:=#[Y,(n,p1)::r,S.don]) (by intro z;cases z)
 rw [e] at ad;have af:∀b∈plc g s1,H0 b=none:=λb hb=>(h.pl b hb).elim (hL b) (·.2);have nf:o.df∉plc g s1:=λz=>(b.new (af _ z)).2.2.2.2 rfl;have ag:∀b ob,H1 b=u_ ob->b∉o.df::plc g s1->H3 b=u_ ob:=λc ob q z=>ac c ob (k2.kept c ob q (λy=>z (by rw [Ae.mp y];exact ug))) (λy=>z (ud _ y))
 refine⟨⟨?_,by have:=h.len;omega,λc ob q z=> ?_,(h.tk.trans k2.tk).trans t3,ac _ _ f2 nf,d2.mono t3,G3,R3,λc Z=> ?_,?_⟩,ad⟩
 ·erw[h.st,j,hj];exact⟨j+1,by show _=Sy.nxt (Sy.nx S j);rw [<-hj,e]⟩
 ·refine ag c ob (h.kp c ob q z) λy=> ?_;rcases Ac.mp y with rfl|y
  ·exact z ug
  ·rcases h.pl c y with y|⟨y,_⟩
   ·exact z (ud _ y)
   ·rw [q] at y;cases y
 ·rcases ae c Z with Z|Z
  ·exact h.pl c Z
  ·have O:H1 c=none:=by
    cases hq:H1 c with
    |none=>rfl
    |some ob=>
     by_cases y:c=o.df
     ·rw [y,f2] at Z;cases Z
     ·rw [k2.kept c ob hq (λz=>y (Ae.mp z))] at Z;cases Z
   by_cases c0:c∈L0
   ·exact .inl c0
   ·right;have aa:H c=none:=by
     cases hq:H c with
     |none=>rfl
     |some ob=>
      by_cases y:c=o.df
      ·rw [y,h.df] at O;cases O
      ·rw [h.kp c ob hq (λz=>by rcases Ac.mp z with z|z;exact y z;exact c0 z)] at O;cases O
    exists aa;cases hq:H0 c with
    |none=>rfl
    |some ob=>
     by_cases y:c∈LO o
     ·have:=kp_more b k0 h.kp h.tk hL;simp![LO,uC,uD,uO] at y;have keep:∀x,(∃xs,H0 x=u_ (.lst xs))∨(∃xs,H0 x=u_ (.dK xs))->H1 x≠none:=λx hx hn=>by
       rcases hx with⟨xs,hx⟩|⟨xs,hx⟩
       ·erw[this.tk.lst x xs hx,ys,hy];rw [hy] at hn;cases hn
       ·erw[this.tk.dct x xs hx,ys,hy];rw [hy] at hn;cases hn
      rcases y with rfl|rfl|rfl|rfl
      ·exact absurd O (keep _ (.inl b.ls))
      ·exact absurd O (keep _ (.inr b.du))
      ·exact absurd O (keep _ (.inr b.dr))
      ·exact absurd O (keep _ (.inr b.df))
     ·rw [k0.kept c ob hq y] at aa;cases aa
 ·have:=nxt_gi b.q h.gi;rwa [e] at this
section
variable {P:o9}{w:og}{K:o0}{mg:Str->om o6}{base:o8}{a:Ad}{g:Ga}
theorem ok_gon (T:Tx K mg a)(C:Fx K w mg g a):#[K,11,a.YU,a.YY,["self","going"],(sp_gon a.qm a.qC a.qM a.qo)]:=by
 have Wo:=#[ok_wanted,T];have Jl:=#[ok_gtake,T,C];have Xd:=#[ok_looked,T];have qS:=#[ok_yet,T];exists 9,T.g_PlainOrder_go_on,yn
 erw[h,H0,o,qs,Z,st,n,p,r,don,uk,fk,top,rfl,hB,hK,aK,hU,ap,aX,aq,hL,h0,k];have hs:=uF;exists 3,%[#[jr,#[qp,Yb,#[qO,5,pv 1,rfl],qW,qB _],%[#[qD,(2),yn.nd,#[yg,pv 1,T.qQ,T.g_Going_wanted,Wo]],#[qL,#[qp,Qt,#[qJ,qI,pv 2,qi],#[qE,#v[qk,qk]],#[w]],%[#[qY,#[Qi,pv 1,T.qQ,T.g_Going_take,Jl,#v[#[Qi,#[qO,5,pv 0,rfl],T.QZ,T.g_Project_looked_up,Xd,#v[pv 2]]]]]|ps_continue],qx],#[qD,(3),yn.nd,#[Qi,pv 0,T.qw,T.g_PlainOrder_answer_yet,qS,#v[#[qJ,qI,pv 2,qi]]]],#[qL,#[qp,Yb,pv 3,qW,qB _],%[|#[qr,#[qJ,qI,pv 2,qi]]],qx]|#[qL,#[qp,QF,#[qJ,qI,pv 3,qi],qk,qB _],%[|#[qY,#[Qi,pv 1,T.qQ,T.g_Going_take,Jl,#v[#[qJ,qI,pv 3,qi]]]]],%[|#[qL,#[qp,QF,#[qJ,qI,pv 3,qi],qk,qB _],%[|#[qY,#[Qi,pv 1,T.qQ,T.g_Going_take,Jl,#v[qW]]]],%[|#[Qg,8,pv 1,#[qE,#v[qk,#[qJ,qI,pv 2,qi]]],rfl]]]]]]]|#[qr,qW]]
 let J_:Nat->L2.St->Hp->Prop:=λmm σ H1=>∃(s1:Gs) (p1:Gp) (fk1:oj (Key×V)) (u3 u4:om V),σ= [u_ (.ref o.x),u_ (.ref Z.x),u3,u4]/\mm=Sy.mu #[Y,(n,p1)::r,don]/\Rnd a.qM a.qo H0 H H1 o #[Y,(n,p)::r,don] (plc Z st) Z s1 n p1 r fk1 top
 exists J_,⟨_,st,p,fk,U_,U_,1,1,h0⟩;rintro mm σ H1 ⟨s1,p1,fk1,u3,u4,rfl,rfl,O⟩;have aL:=kp_more hB hK O.kp O.tk hL;have aa:=hB.at aL;have au:∀b∈plc Z s1,H0 b=none:=λb hb=>(O.pl b hb).elim (hL b) (·.2);erw[O.gi (n,p1) (.inl ug),hI,aZ];have hI:GI p1:=hI;have aw:H1 o.du=u_ (.dK uk):=O.kp _ _ aK (λz=>by
  rcases Ac.mp z with z|z
  ·have:=hB.nd;simp [LO] at this;exact this.2.1.2 z
  ·exact(hB.new (hL _ z)).2.2.1 rfl)
 erw[id O.go,dx,fs,mv,av,rv,ev,e,f,i,j,a1,l];have a2:fs.length<1000:=by have:=f.len;omega
 exists 0,Z.x,_,dx,fs,0,e,T.qQ,T.QX,f.f_end,1,0;cases he:p1.en with
 |some d=>
  have l':Is H1 d ev:=by have:=l;rwa [O.rel.en,he] at this
  have aM:d≠ .non:=by rcases hI.en d he with⟨z,rfl⟩|⟨x,rfl,_⟩|⟨z,rfl⟩<;>(intro z;cases z)
  refine iteN (uh (X8 l' aM)) ?_;exact k _ H1 s1 p1 fk1 O (.inl ⟨1,by rw [he];rfl⟩)
 |none=>
  have l':Is H1 .non ev:=by have:=l;rwa [O.rel.en,he] at this
  cases(show ev= .non from l')
  refine iteB (uf rfl) ?_
  exists λσ' H'=>∃m',m'<Sy.mu #[Y,(n,p1)::r,don]/\J_ m' σ' H',λ_ _ h=>h;exists 8,B1,b1;have ax:Z.o≠Z.x:=by rw [aq];exact(hB.new (hL _ ug)).1.symm
  have ak:∀H2:Hp,(∀b ob,H1 b=u_ ob->b∉o.df::plc Z s1->H2 b=u_ ob)->∃dx fs,H2 Z.o=u_ (.ins a.qm dx fs)/\fs.lookup ("runner":Str)=none:=λH2 h2=>⟨_,_,(by rw [aq];exact h2 _ _ aa.e (λz=>by
   rcases Ac.mp z with z|z
   ·have:=aa.e;rw [z,O.df] at this;cases this
   ·exact(hB.new (au _ z)).1 rfl)),Zt o _ ()⟩
  cases hw:QU p1 with
  |none=>
   exists 0,Z.x,dx,fs,1,e,f.meth _ ()
   refine want_spO (E:=E0) (qs:=qs) O.go O.rel hI he hw λrs rr kd z v ay al ac hz aA hv=>b1 _ _ ?_;exists 8,B2,b2;erw[id hv,q,ws,rfl,hq,w1,r1,rfl,[rfl,aN],w2,r2,rfl,[rfl,aB],h3];cases(show r2= [] from h3)
   exists 5
   refine⟨0,q,_,_,0,1,SqT.of hq,1,(sml rfl),λt ht=> ?_⟩;have s2:=qf ht (.tup [V.str "has",V.str "names"])
   exists t,0,.inr (SqT.of qg),1,1,0;refine iteB ((inHN kd).trans ac) ?_;erw[id aa.p,aO,dp,op,a3,hx,hd,hk,a4];have a5:z.length<=300:=by
    have:=yt hz;simp![good,Qy,uw,vj] at this;exact this.1
   erw[look_ok hB.q z ac,a6,aP];generalize a7:upd H1 t (.tup [V.str "has",V.str "names"])=H2 at s2⊢;have fin:∀(u:V) (H3:Hp),Same H2 H3->Is H3 (JV qs kd z) u->Xt a.qM a.qo a.qm [.ref Z.x,u] H3 (λ_ H4=>∃m',m'<Sy.mu #[Y,(n,p1)::r,don]/\J_ m' [u_ (.ref o.x),u_ (.ref Z.x),u_ (.ref q),u4] H4) E0:=λu H3 s3 hu=>by
    have U:=s2.trans s3;refine take_sp (O.go.same U) O.rel hI he hu (λaQ r' e'=> ?_) ax (ak H3 λb ob h _=>U b ob h) λH4 s4 w4 G4 R4 aR=> ?_
    ·rw [ay] at e';cases e';exact⟨kd,_,al,aP⟩
    ·rw [<-aA] at R4;have kq:∀b ob,H3 b=u_ ob->b∉plc Z s1->H4 b=u_ ob:=λb ob h n=>w4.kept b ob h (λy=>n (by rw [y];exact ug)) (λmc r' y=>by
      unfold plc at n;rw [y] at n;simp![plcR,uC,uD,uO,V3] at n;exact[n.2.1:n.2.2.1:n.2.2.2])
     erw[O.more hB hK hL (Kp.of U) (U _ _ O.df) (O.fd.mono U.tk) (GJ _) kq w4.tk G4 R4 aR (nxt_own he hw),m1,m2];exact⟨_,m2,s4,_,fk1,_,0,1,m1⟩
   exists 0,Z.x,dx,fs,1,s2 _ _ e,f.meth _ ()
   exists 0,o.x,_,o.dx,_,0,s2 _ _ aa.e,T.qw,T.Qf,of_gp o
   exists o.px,aO,0,s2 _ _ hx,no_looked,0,o.px,q,kd,z,qs,1,aa.p.same s2,hB.q,s2 _ _ hq,()
   have aC:kd="has"∨kd≠"has"/\kd="names":=by
    unfold isHN at ac;by_cases c:kd="has"
    ·exact .inl c
    ·rw [uh c,R1] at ac;exact .inr [c:uA ac]
   rcases aC with c|⟨c',c⟩
   ·refine .inl [c:fin _ H2 (Same.refl _) ?_];unfold JV;rw [Aa c];exact yl (by split<;>decide)
   ·refine .inr [c:λu H3 s3 hu=>fin u H3 s3 ?_];unfold JV;rwa [A2 c']
  |some m=>
   erw[jj hI he hw,a8,al]
   exists 0,Z.x,dx,fs,1,e,f.meth _ ()
   refine want_sp (E:=E0) O.go O.rel hI he hw λkd v H2 s2 ac hv=>b1 _ _ ?_;exists 8,B2,b2;erw[id hv,q,ws,rfl,hq,w1,r1,rfl,[rfl,aN],w2,r2,rfl,[rfl,aB],h3];cases(show r2= [] from h3)
   exists 5
   refine⟨0,q,_,_,0,1,SqT.of hq,1,(sml rfl),λt ht=> ?_⟩;have s3:=qf ht (.tup [V.str "has",V.str "names"])
   exists t,0,.inr (SqT.of qg),1,1,0;refine iteN ((inHN kd).trans ac) (b2 _ _ ?_);exists 8,B3,b3;generalize upd H2 t (.tup [V.str "has",V.str "names"])=H3 at s3⊢;have U:=s2.trans s3;have aD:=s3 _ _ hq;have aE:SGI #[Y,(n,p1)::r,don]:=O.gi
   exists 0,o.x,o.dx,0,U _ _ aa.e,Zt o _ ()
   exists 5
   refine⟨0,q,_,_,0,1,SqT.of aD,1,o,m,qs,#[Y,(n,p1)::r,don],uk,fk1,1,[U _ _ aa.e:aa.p.same U],hB.q,aE,U _ _ aw,hU,U _ _ O.df,O.fd.mono U.tk,(by have:=O.len;omega),ap,λu H4 am k4 f4 d4 l4 aS y4=> ?_⟩
   have ad:Kp [o.df] H1 H4:=(Kp.of U).trans k4;have aF:H4 q=u_ (.tup [V.str kd,V.str m]):=k4.tk.tup _ _ aD;have aT:o.df∉plc Z s1:=λz=>(hB.new (au _ z)).2.2.2.2 rfl;have G4:GoAt a.qM a.qo H4 Z s1:=O.go.frame (λb hb ob h=>ad.kept b ob h (λz=>aT (by rwa [<-Ae.mp z]))) ad.tk
   erw[id G4,ao,ae,a9,ba,bb,bc,e4,af,i4,j4,aG,bd];refine b3 _ _ ?_;exists 8,B4,b4
   exists 0,1,0;unfold YetIs at y4;cases hy:Sy.yet #[Y,(n,p1)::r,don] m with
   |none=>
    rw [hy] at y4;cases(show u= .non from y4)
    refine iteB (uf rfl) ⟨0,q,_,_,0,1,SqT.of aF,1,?_⟩;refine k _ H4 s1 p1 am ⟨O.st,(by rw [aS hy];exact O.len),λb ob h z=>ad.kept b ob (O.kp b ob h z) (λy=>z (by rw [Ae.mp y];exact ug)),O.tk.trans ad.tk,f4,d4,G4,O.rel,O.pl,O.gi⟩ (.inr ⟨m,1,he,hw,hy⟩)
   |some oa=>
    rw [hy] at y4;erw[y4,d,hd,ha,_];have sh:∃kk rr,d= .tup (.str kk::rr):=by
     cases oa with
     |none=>erw[ha,kk,rr,h,_];exact[kk:rr:h]
     |some x=>cases x with
      |none=>exact[_:_:ha]
      |some y=>exact[_:_:ha]
    erw[sh,kk,rr,rfl];erw[id hd,qa,wa,rfl,ag,w1,r1,rfl,[rfl,aY],h3];refine iteN (uh (λz=>by cases z)) (b4 _ _ ?_)
    exists 0,qa,_,_,0,1,SqT.of ag,Qc (j:=0) rfl,1,0;have fin:∀(dd:D) (u:V),Is H4 dd u->zg dd->Sy.nxt #[Y,(n,p1)::r,don]=⟨(n,Yn p1 dd)::r,don⟩->Xt a.qM a.qo a.qm [.ref Z.x,u] H4 (λ_ H5=>∃m',m'<Sy.mu #[Y,(n,p1)::r,don]/\J_ m' [u_ (.ref o.x),u_ (.ref Z.x),u_ (.ref q),u_ (.ref qa)] H5) E0:=λdd u hu hok ah=>by
     refine take_sp G4 O.rel hI he hu (λaQ r' e'=> ?_) ax (ak H4 λb ob h n=>ad.kept b ob h (λz=>n (by rw [Ae.mp z];exact ug))) λH5 s5 w5 G5 R5 aU=> ?_
     ·rcases al with⟨h1,_⟩|⟨rs,rr,h1,h2⟩
      ·rw [h1] at e';cases e'
      ·rw [h1] at e';cases e';exact⟨"thing",_,h2,ansB_thing hok⟩
     ·have kq:∀b ob,H4 b=u_ ob->b∉plc Z s1->H5 b=u_ ob:=λb ob h n=>w5.kept b ob h (λy=>n (by rw [y];exact ug)) (λmc r' y=>by
       unfold plc at n;rw [y] at n;simp![plcR,uC,uD,uO,V3] at n;exact[n.2.1:n.2.2.1:n.2.2.2])
      erw[O.more hB hK hL ad f4 d4 l4 kq w5.tk G5 R5 aU ah,m1,m2];exact⟨_,m2,s5,_,am,_,0,1,m1⟩
    cases oa with
    |some x=>
     have hok:=yet_ok hB.q aE hy;have ah:=nxt_tk he hw hy;cases x with
     |some y=>
      cases(show D.tup (.str kk::rr)= .tup [.str "value",y] from ha)
      erw[h3,w5,r5,rfl,h5,h6];cases(show r5= [] from h6)
      refine iteB (uf rfl) ?_;exact⟨0,Z.x,ao,ae,1,e4,af.meth _ (),0,qa,_,_,0,1,SqT.of ag,1,fin y w5 h5 hok ah⟩
     |none=>
      cases(show D.tup (.str kk::rr)= .tup [.str "lack"] from ha)
      refine iteN () ?_
      exists 0,qa,_,_,0,1,SqT.of ag,Qc (j:=0) rfl,1,0;refine iteB (uf rfl) ?_;exact⟨0,Z.x,ao,ae,1,e4,af.meth _ (),fin .non .non rfl hok ah⟩
    |none=>
     erw[ha,k2,r2,e5,c1,c2];cases e5;refine iteN (uh (λz=>c1 (V.str.inj z))) ?_
     exists 0,qa,_,_,0,1,SqT.of ag,Qc (j:=0) rfl,1,0;refine iteN (uh (λz=>c2 (V.str.inj z))) ?_
     exists 5
     refine⟨0,q,_,_,0,1,SqT.of aF,1,(sml rfl),λt5 aH=> ?_⟩;have s5:=qf aH (.tup [V.str "stuck",V.str m]);have aI:ae.length<1000:=by have:=af.len;omega
     exists 0,Z.x,_,ao,ae,1,s5 _ _ e4,T.qQ,T.QX,aI;have aV:=Is.new (H:=H4) (ds:= [.str "stuck",.str m]) (p:=t5) ⟨_,0,yl (),_,0,[1:aB],1⟩ aH
     erw[W5 (C:=a.qM) (CM:=a.qo) (g:=Z) (s:={s1 with en:= .tup [.str "stuck",.str m]}) (s5 _ _ e4) (af.set_end (u:= .ref t5)) (i4.mono s5.tk) (j4.mono s5.tk) (aG.same s5) aV,g1,g2]
     have aJ:GRel Z {s1 with en:= .tup [.str "stuck",.str m]} (stkP p1 m):=⟨O.rel.n,O.rel.mb,O.rel.ra,O.rel.run,O.rel.own,1⟩
     have aW:Kp [o.df] H1 (upd H4 t5 (.tup [V.str "stuck",V.str m])):=ad.trans (Kp.of s5);obtain⟨m1,m2⟩:=O.more hB hK hL aW (s5 _ _ f4) (d4.mono s5.tk) l4 (λb ob h n=>g2.kept b ob h (λy=>n (by rw [y];exact ug))) g2.tk g1 aJ (λb hb=> .inl hb) (nxt_stk he hw hy)
     exact⟨_,m2,_,_,am,_,0,1,m1⟩
def xy (CG CM:o3)(H:Hp)(ox:o3):oj (Gc×Gs)->oj (Str×Gp)->Prop
 | [],[]=>True
 |q::t,p::l=>GoAt CG CM H q.1 q.2/\GRel q.1 q.2 p.2/\q.1.o=ox/\xy CG CM H ox t l
 |_,_=>False
def plcs:oj (Gc×Gs)->oj o3
 | []=> []
 |q::t=>plc q.1 q.2++plcs t
def Sep:oj (Gc×Gs)->Prop
 | []=>True
 |q::t=>(∀b∈plc q.1 q.2,b∉plcs t)/\Sep t
theorem xy.frame {CG CM ox:o3}{H H':Hp}:∀{st:oj (Gc×Gs)}{l:oj (Str×Gp)},xy CG CM H ox st l->(∀b∈plcs st,∀ob,H b=u_ ob->H' b=u_ ob)->Tk H H'->xy CG CM H' ox st l
 | [],[],_,_,_=>trivial
 | [],_::_,h,_,_=>h.elim
 |_::_,[],h,_,_=>h.elim
 |q::t,p::l,⟨h1,h2,h3,h4⟩,hk,tk=>⟨h1.frame (λb O=>hk b (vH _ O)) tk,h2,h3,xy.frame h4 (λb O=>hk b (uP _ O)) tk⟩
theorem xy.there {CG CM ox:o3}{H:Hp}:∀{st:oj (Gc×Gs)}{l:oj (Str×Gp)},xy CG CM H ox st l->∀b∈plcs st,∃ob,H b=u_ ob
 | [],[],_=>λb O=>by cases O
 | [],_::_,h=>h.elim
 |_::_,[],h=>h.elim
 |q::t,p::l,⟨h1,h2,h3,h4⟩=>λb O=>by
  rcases Af.mp O with O|O
  ·exact h1.there b O
  ·exact xy.there h4 b O
theorem xy.len {CG CM ox:o3}{H:Hp}:∀{st:oj (Gc×Gs)}{l:oj (Str×Gp)},xy CG CM H ox st l->st.length=l.length
 | [],[],_=>rfl
 | [],_::_,h=>h.elim
 |_::_,[],h=>h.elim
 |q::t,p::l,⟨h1,h2,h3,h4⟩=>by rw [um,um,xy.len h4]
theorem lfts_len {Y:Sy}:∀l:oj (Str×Y.G),l.length<=Sy.lfts l
 | []=>uj _
 |(_,g)::r=>by
  have:=lfts_len r;show r.length+1<=Y.lft g+1+Sy.lfts r;omega
theorem mu_S0 (O:Qn qs)(n:Str):Sy.mu (Sy.S0 (SyP qs) n)<=20000:=by
 have U:=O.2.2;have Z:∀S:Sy.Ss (SyP qs),(Sy.rest S).length<=60:=λS=>by
  have h1:(Sy.rest S).length<=(qs.map (·.1)).length:=Uz _ _;rw [uc] at h1;omega
 unfold Sy.mu;have h2:=Z (Sy.S0 (SyP qs) n);have h3:(SyP qs).M=302:=rfl;rw [h3];have h4:Sy.lfts (Sy.S0 (SyP qs) n).stk<=303:=by
  unfold Sy.S0;cases hg:(SyP qs).g0 n with
  |none=>exact vf _
  |some g=>
   have:=(QI qs).l0 n g hg;show(SyP qs).lft g+1+0<=303;have h3:(SyP qs).M=302:=rfl;omega
 omega
structure OI {qs:oj (Str×D)}(CG CM:o3)(H0 H:Hp)(o:Oc)(n0:Str)(S:Sy.Ss (SyP qs))(st:oj (Gc×Gs))(uk rk fk:oj (Key×V)):Prop where
 kp:Kp (LO o) H0 H
 nx:∃j,S=Sy.nx (Sy.S0 (SyP qs) n0) j
 ls:H o.ls=u_ (.lst (st.reverse.map λq=>V.ref q.1.x))
 du:H o.du=u_ (.dK uk)
 uo:UkOk S uk
 ul:uk.length+Sy.mu S<=20001
 dr:H o.dr=u_ (.dK rk)
 rks:rk.map (·.1)=S.don.map λp=>Vc p.1
 rv:L2.IsL H (S.don.map λp=>Y7 p.2) (rk.map (·.2))
 rl:S.don.length+Sy.mu S<=20001
 df:H o.df=u_ (.dK fk)
 fd:FdOk H S fk
 fl:fk.length+Sy.mu S<=20001
 stk:xy CG CM H o.x st S.stk
 new:∀b∈plcs st,H0 b=U_
 sep:Sep st
 gi:SGI S
 fin:∀q∈S.don,(Gp.en q.2).isSome=v_
 nd:(S.stk.map (·.1)++S.don.map (·.1)).Nodup
theorem S0_nd (n:Str)(j:Nat):((Sy.nx (Sy.S0 (SyP qs) n) j).stk.map (·.1)++(Sy.nx (Sy.S0 (SyP qs) n) j).don.map (·.1)).Nodup:=by
 cases O:(SyP qs).g0 n with
 |some g=>exact(Sy.nx_ok (QI qs) (Sy.S0_ok O) j).nd
 |none=>
  have e:Sy.nx (Sy.S0 (SyP qs) n) j=⟨[],[]⟩:=by
   have U:Sy.S0 (SyP qs) n=⟨[],[]⟩:=by unfold Sy.S0;rw [O]
   rw [U]
   induction j with
   |zero=>rfl
   |succ j Z=>show Sy.nxt _=_;rw [Z];rfl
  rw [e];exact vQ
inductive sp_thru (CO CP:Addr) (vs:List V) (H:Hp) (Q:VK) (E_:XK):Prop
 |mk (o:Oc) (qs:List (Str×D)) (n:Str) (_:vs= [.ref o.x,.str n]) (_:Bs CO CP H o qs) (_:H o.ls=u_ (.lst [])) (_:H o.du=u_ (.dK [])) (_:H o.dr=u_ (.dK [])) (_:H o.df=u_ (.dK [])) (_:∀(H':Hp) (rk uk fk:List (Key×V)) (don:List (Str×Gp)) (j:Nat),H' o.du=u_ (.dK uk)->UkOk #[Y,[],don] uk->H' o.df=u_ (.dK fk)->FdOk H' #[Y,[],don] fk->fk.length<=20001->SGI #[Y,[],don]->Kp (LO o) H H'->Sy.nx (Sy.S0 (SyP qs) n) j=⟨[],don⟩->H' o.dr=u_ (.dK rk)->(rk.map (·.1)=don.map λp=>Vc p.1)->L2.IsL H' (don.map λp=>Y7 p.2) (rk.map (·.2))->(∀p∈don,GI p.2/\p.2.en.isSome=v_)->don.length<=20001->Q .non H')
theorem yY {α:Type}{xs:oj α}{x:α}:atI (xs++ [x]) (-1)=u_ x:=by
 unfold atI ixN;have O:(xs++ [x]).length=xs.length+1:=by simp
 rw [A2 (),Aa ()]
 show(xs++ [x])[(-1+((xs++ [x]).length:Int)).toNat]? =u_ x;rw [show(-1+((xs++ [x]).length:Int)).toNat=xs.length by omega]
 simp
theorem nx_add {Y:Sy}(S:Sy.Ss Y)(i:Nat):∀j,Sy.nx S (i+j)=Sy.nx (Sy.nx S i) j
 |0=>rfl
 |j+1=>by show Sy.nxt (Sy.nx S (i+j))=Sy.nxt (Sy.nx (Sy.nx S i) j);rw [nx_add S i j]
theorem nx_le {qs:oj (Str×D)}(S:Sy.Ss (SyP qs)):∀j,Sy.mu (Sy.nx S j)<=Sy.mu S
 |0=>uj _
 |j+1=>by
  have h:=nx_le S j;show Sy.mu (Sy.nxt (Sy.nx S j))<=_;by_cases c:(Sy.nx S j).stk= []
  ·have e:Sy.nxt (Sy.nx S j)=Sy.nx S j:=by unfold Sy.nxt;rw [c]
   rwa [e]
  ·have:=Sy.nxt_mu (QI qs) c;omega
theorem ok_thru (T:Tx K mg a)(C:Fx K w mg g a):#[K,13,a.yz,a.yy,["self","name"],(sp_thru a.qm a.qC)]:=by
 have qS:=#[ok_yet,T];have YV:=#[ok_enter,T,C];have XW:=#[ok_gon,T,C];have Xa:=#[ok_settle,T];exists 9,T.g_PlainOrder_go_through,QH
 erw[h,o,qs,n,rfl,hB,bD,bg,bE,bF,k];have hs:=uF;have hO:=hB.oa;exists 3,%[#[qL,#[qp,Yb,#[Qi,pv 0,T.qw,T.g_PlainOrder_answer_yet,qS,#v[pv 1]],qW,qB _],%[|#[qY,#[Qi,pv 0,T.qw,T.g_PlainOrder_enter,YV,#v[pv 1]]]],qx]|#[jr,#[pt_truth,3,#[qO,5,pv 0,rfl],(λ_=>rfl)],%[#[qD,(2),QH.nd,#[qJ,QO,#[qO,5,pv 0,rfl],#[kT,6,Xp,qi]]],#[qD,(3),QH.nd,#[Qi,pv 0,T.qw,T.g_PlainOrder_go_on,XW,#v[pv 2]]]|#[qL,#[qp,Yb,pv 3,qW,qB _],%[#[qY,#[pe_bm0,9,uN,PySem.F.slot_list_pop,PySem.F.type_list_pop,mt_pop,#[qO,5,pv 0,rfl],_,_]],#[qY,#[pe_dpop1,7,#[qO,5,pv 0,rfl],#[qO,5,pv 2,rfl],⟨1,1,1,1⟩]]|#[qY,#[Qi,pv 0,T.qw,T.g_PlainOrder_settle,Xa,#v[pv 2]]]],%[|#[qY,#[Qi,pv 0,T.qw,T.g_PlainOrder_enter,YV,#v[pv 3]]]]]]]]
 have bG:=mu_S0 hB.q n;exists 8,N,hN;have bH:∀(H1:Hp) (S:Sy.Ss (SyP qs)) (st:oj (Gc×Gs)) (uk rk fk:oj (Key×V)),OI a.qM a.qo H H1 o n S st uk rk fk->N [u_ (.ref o.x),u_ (.str n),U_,U_] H1:=by
  intro H1 S st uk rk fk h1;refine hN _ _ ?_
  let J_:Nat->L2.St->Hp->Prop:=λmm σ H2=>∃(S:Sy.Ss (SyP qs)) (st:oj (Gc×Gs)) (uk rk fk:oj (Key×V)) (u3 u4:om V),σ= [u_ (.ref o.x),u_ (.str n),u3,u4]/\mm=Sy.mu S/\OI a.qM a.qo H H2 o n S st uk rk fk
  exists J_,⟨_,S,st,uk,rk,fk,U_,U_,1,1,h1⟩;clear h1 bg bE bF bD;rintro mm σ H2 ⟨S,st,uk,rk,fk,u3,u4,rfl,rfl,Z⟩;have bh:=hB.at Z.kp
  exists 0,o.x,_,o.dx,_,0,bh.e,T.qw,T.QB,of_st o,_,.inl [_:SqL.of Z.ls:1];obtain⟨(stk:oj (Str×Gp)),(don:oj (Str×Gp))⟩:=S;have ax:xy a.qM a.qo H2 o.x st stk:=Z.stk;cases st with
  |nil=>
   cases stk with
   |cons p l=>exact ax.elim
   |nil=>
    refine iteN rfl ?_;erw[Z.nx,j,hj];exact k H2 rk uk fk don j Z.du Z.uo Z.df Z.fd (by have:=Z.fl;omega) Z.gi Z.kp hj.symm Z.dr Z.rks Z.rv (λp hp=>[(Z.gi p (.inr hp)).1:Z.fin p hp]) (by have:=Z.rl;have e:(#[Y,[],don].don).length=don.length:=rfl;omega)
  |cons q t=>
   erw[q,gc,gs];cases stk with
   |nil=>exact ax.elim
   |cons p l=>
    erw[p,O,p];erw[ax,hG,bo,bI,hT];have hG:GoAt a.qM a.qo H2 gc gs:=hG;have bo:GRel gc gs p:=bo;have am:H2 o.ls=u_ (.lst ((t.reverse.map λq=>V.ref q.1.x)++ [V.ref gc.x])):=by
     have:=Z.ls;rwa [V1,uu] at this
    refine iteB (by rw [V1,uu];show(!((HU _ t.reverse)++ [V.ref gc.x]).isEmpty)=v_;simp) ?_
    exists λσ' H'=>∃m',m'<Sy.mu #[Y,(O,p)::l,don]/\J_ m' σ' H',λ_ _ h=>h;exists 8,B1,b1
    exists 5
    refine⟨0,o.x,_,o.dx,_,0,bh.e,T.qw,T.QB,of_st o,0,o.ls,_,_,0,1,SqL.of am,yY,b1 _ _ ?_⟩;exists 8,B2,b2;have ao:∀b∈plc gc gs,H b=none:=λb U=>Z.new b (vH _ U);have ac:∀b∈plcs t,H b=none:=λb U=>Z.new b (uP _ U);have bJ:∃j,#[Y,(O,p)::l,don]=Sy.nx #[Y,(O,p)::l,don] j:=[(0):1]
    exists 5
    refine⟨0,o.x,o.dx,0,bh.e,Zt o _ (),0,H,o,qs,gc,gs,O,p,l,don,uk,fk,(20001),1,hB,Z.kp,Z.du,Z.uo,Z.fin,(),bI,ao,⟨bJ,Z.fl,λ_ _ h _=>h,Tk.refl _,Z.df,Z.fd,hG,bo,λb U=> .inl U,Z.gi⟩,λv H3 ak p3 ad hR hv=> ?_⟩
    have aW:Sy.mu #[Y,(O,p3)::l,don]<=Sy.mu #[Y,(O,p)::l,don]:=by
     erw[hR.st,j,hj];have hj:#[Y,(O,p3)::l,don]=Sy.nx #[Y,(O,p)::l,don] j:=hj;rw [hj];exact nx_le _ _
    have bK:∃j,#[Y,(O,p3)::l,don]=Sy.nx (Sy.S0 (SyP qs) n) j:=by
     erw[hR.st,j,hj];erw[Z.nx,i,hi];have hj:#[Y,(O,p3)::l,don]=Sy.nx #[Y,(O,p)::l,don] j:=hj;exact⟨i+j,by rwa [nx_add,<-hi]⟩
    have ap:Kp (LO o) H H3:=kp_more hB Z.kp hR.kp hR.tk ao;have ay:=hB.at ap;have aq:∀b∈plc gc ak,H b=none:=λb U=>(hR.pl b U).elim (ao b) (·.2);have out:∀b,b∈LO o->b≠o.df->b∉o.df::plc gc gs:=λb U hn z=>by
     rcases Ac.mp z with z|z
     ·exact hn z
     ·exact hB.nlo (ao b z) U
    have bZ:o.ls≠o.du/\o.ls≠o.dr/\o.ls≠o.df/\o.du≠o.dr/\o.du≠o.df/\o.dr≠o.df:=by
     have h:=hB.nd;simp![LO,Ue,uC,uD,uO,V3,vQ,and_true,V0] at h;exact⟨h.1.1,h.1.2.1,h.1.2.2,h.2.1.1,h.2.1.2,h.2.2⟩
    erw[bZ,d1,d2,d3,d4,d5,d6];have af:=hR.kp _ _ am (out _ (by simp [LO]) d3)
    have aA:=hR.kp _ _ Z.du (out _ (by simp [LO]) d5)
    have aB:=hR.kp _ _ Z.dr (out _ (by simp [LO]) d6)
    have bp:xy a.qM a.qo H3 o.x t l:=hT.frame (λb U ob h=>hR.kp b ob h (λz=>by
     rcases Ac.mp z with z|z
     ·exact(hB.new (ac b U)).2.2.2.2 z
     ·exact Z.sep.1 b z U)) hR.tk
    have bq:∀b∈plc gc ak,b∉plcs t:=λb U z=>by
     rcases hR.pl b U with U|⟨U,_⟩
     ·exact Z.sep.1 b U z
     ·erw[hT.there b z,ob,e];rw [e] at U;cases U
    have b3:GI p3:=(hR.gi (O,p3) (.inl ug)).1;have aX:p3.n=O:=(hR.gi (O,p3) (.inl ug)).2;have bL:=Z.ul;have bM:=hR.len;have b4:=Z.rl;have cm:don.length+Sy.mu #[Y,(O,p)::l,don]<=20001:=b4;have b5:ad.length+Sy.mu #[Y,(O,p3)::l,don]<=20001:=bM;have aC:=Sy.nxt_mu (QI qs) (S:=#[Y,(O,p3)::l,don]) (by intro z;cases z)
    have cn:rk.length=don.length:=by
     have:=congrArg VT Z.rks;rwa [uc,uc] at this
    have aD:H3 o.df=u_ (.dK ad):=hR.df;have aO:GoAt a.qM a.qo H3 gc ak:=hR.go;have ag:GRel gc ak p3:=hR.rel;have aY:FdOk H3 #[Y,(O,p3)::l,don] ad:=hR.fd;have aZ:SGI #[Y,(O,p3)::l,don]:=hR.gi;erw[bK,i3,aP];refine b2 _ _ ?_
    exists 0,1,0;rcases hv with⟨rfl,au⟩|⟨m,rfl,au,hw,hy⟩
    ·
     refine iteB (uf rfl) ?_;exists 8,C1,c1;obtain⟨d,hd⟩:∃d,p3.en=u_ d:=by
      cases h:p3.en with
      |none=>rw [h] at au;cases au
      |some d=>exact[d:1]
     have ae:=nxt_pop (qs:=qs) (n:=O) (r:=l) (don:=don) hd
     exists 0,o.x,_,o.dx,_,0,ay.e,T.qw,T.QB,of_st o,.inl [1:_:SqL.of af]
     exists o.ls,_,V.ref gc.x,1,1,af,by simp
     rw [List.dropLast_concat];have aa:Kp [o.ls,o.du] H3 (upd H3 o.ls (.lst (t.reverse.map λq=>V.ref q.1.x))):=⟨λb ob h n=>by rw [qh (λz=>n (by rw [z];exact ug))];exact h,Kept.tk (p:=o.ls) (λb ob h n=>by rwa [qh n]) af qg⟩
     obtain⟨H4,aE⟩:∃H4,H4=upd H3 o.ls (.lst (t.reverse.map λq=>V.ref q.1.x)):=⟨0⟩;rw [<-aE] at aa⊢;refine c1 _ _ ?_;exists 8,C2,c2;have e4:H4 o.x=u_ (.ins a.qm o.dx (ofs o)):=by rw [aE,qh (λz=>by have:=ay.e;rw [z,af] at this;cases this)];exact ay.e
     have aF:H4 o.ls=u_ (.lst (t.reverse.map λq=>V.ref q.1.x)):=by rw [aE];exact qg
     have al:H4 o.du=u_ (.dK uk):=by rwa [aE,qh d1.symm]
     have bN:∀b,H b=U_->b≠o.ls:=λb U=>(hB.new U).2.1;have b6:GoAt a.qM a.qo H4 gc ak:=aO.frame (λb U ob h=>by rwa [aE,qh (bN b (aq b U))]) aa.tk
     erw[id b6,b7,b8,cp,cq,cr,cu,b9,f4,_];have aG:(valV uk (Vc gc.n)).isSome=true:=by
      rw [ag.n,aX];exact(Z.uo O).trans (uf ug)
     obtain⟨uv,ca⟩:∃uv,valV uk (Vc gc.n)=u_ uv:=by
      cases h:valV uk (Vc gc.n) with
      |none=>rw [h] at aG;cases aG
      |some uv=>exact[uv:1]
     exists 0,o.x,_,o.dx,_,0,e4,T.qw,T.Qx,of_uw o,o.du,1,.inl [_:.inl al],0,gc.x,_,b7,b8,0,b9,T.qQ,T.y9,f4.Zc,uk,Vc gc.n,uv,al,1,ca;have ah:Kp [o.ls,o.du] H3 (upd H4 o.du (.dK (jm uk (Vc gc.n)))):=aa.trans (Kp.updD al (ud _ ug));obtain⟨H5,bt⟩:∃H5,H5=upd H4 o.du (.dK (jm uk (Vc gc.n))):=⟨0⟩;rw [<-bt] at ah⊢;refine c2 _ _ ?_;have bO:H5 o.du=u_ (.dK (jm uk (Vc gc.n))):=by rw [bt];exact qg
     have bP:H5 o.ls=u_ (.lst (t.reverse.map λq=>V.ref q.1.x)):=by rwa [bt,qh d1]
     have aH:∀b,H b=U_->b∉ [o.ls,o.du]:=λb U z=>by
      simp![uC,uD,uO] at z;rcases z with z|z
      ·exact(hB.new U).2.1 z
      ·exact(hB.new U).2.2.1 z
     have cb:GoAt a.qM a.qo H5 gc ak:=aO.frame (λb U ob h=>ah.kept b ob h (aH b (aq b U))) ah.tk;have bQ:H5 o.dr=u_ (.dK rk):=ah.kept _ _ aB (by simp![uC,uD,uO,V3];exact[d2.symm:d4.symm])
     have bR:H5 o.df=u_ (.dK ad):=ah.kept _ _ aD (by simp![uC,uD,uO,V3];exact[d3.symm:d5.symm])
     have aQ:∀b,b∉LO o->b∉ [o.ls,o.du]:=λb U z=>U (by simp![LO,uC,uD,uO] at z⊢;rcases z with z|z;exact .inl z;exact .inr (.inl z))
     have bu:Kp (LO o) H H5:=[λb ob h n=>ah.kept b ob (ap.kept b ob h n) (aQ b n):ap.tk.trans ah.tk];have bS:=hB.at bu
     exists 5
     refine⟨0,o.x,o.dx,0,bS.e,Zt o _ (),0,o,qs,gc,ak,p3,rk,ad,1,bS,cb,ag,b3,au,bQ,(),bR,(),d6,λz=>(hB.new (aq _ z)).2.2.2.1 rfl,λz=>(hB.new (aq _ z)).2.2.2.2 rfl,λv1 v2 H6 aw aI i6 ba j6=> ?_⟩
     have bT:∀b,b∉LO o->b∉ [o.dr,o.df]:=λb U z=>U (by simp![LO,uC,uD,uO] at z⊢;rcases z with z|z;exact .inr (.inr (.inl z));exact .inr (.inr (.inr z)))
     have cc:∀b,H b=U_->b∉ [o.dr,o.df]:=λb U=>bT b (hB.nlo U);have cd:Kp (LO o) H H6:=[λb ob h n=>aw.kept b ob (bu.kept b ob h n) (bT b n):bu.tk.trans aw.tk];have aJ:Tk H3 H6:=ah.tk.trans aw.tk;have bv:gc.n=O:=ag.n.trans aX;have aR:(#[Y,(O,p3)::l,don].stk.map (·.1)++#[Y,(O,p3)::l,don].don.map (·.1)).Nodup:=by
      rw [aP];exact S0_nd n i3
     have bb:(O::(l.map (·.1)++don.map (·.1))).Nodup:=aR;have aK:O∉don.map (·.1):=λz=>(List.nodup_cons.mp bb).1 (uP _ z);have bw:O∉l.map (·.1):=λz=>(List.nodup_cons.mp bb).1 (vH _ z);have ce:valV rk (Vc O)=none:=by
      cases h:valV rk (Vc O) with
      |none=>rfl
      |some v=>
       have h1:=valV_in h;rw [Z.rks] at h1;erw[Ag.mp h1,q,hq,e];injection e with e
       exact absurd (Ag.mpr [q:hq:e]) aK
     rw [bv] at aI ba;rw [Kj v1 ce] at aI;have bU:uk.length+Sy.mu #[Y,(O,p)::l,don]<=20001:=bL;have cv:=dropK_le uk (Vc gc.n:Key);have cf:=yM ad (Vc O:Key) v2;have a1:UkOk #[Y,l,don++ [(O,p3)]] (jm uk (Vc gc.n)):=by
      intro m';rw [ww];by_cases c:m'=O
      ·rw [Aa (by rw [c,bv]),c]
       exact(uh bw).symm
      ·rw [A2 (by rw [bv];exact λz=>c (Uu z))]
       refine(Z.uo m').trans ?_;rw [uZ];exact⟨λz=>by rcases Ac.mp z with z|z;exact absurd z c;exact z,λz=>ud _ z⟩
     have a2:(rk++ [((Vc O:Key),v1)]).map (·.1)=(don++ [(O,p3)]).map λq:Str×Gp=>(Vc q.1:Key):=by
      rw [uu,uu];have:=Z.rks;rw [this]
      rfl
     have a3:L2.IsL H6 ((don++ [(O,p3)]).map λq:Str×Gp=>Y7 q.2) ((rk++ [((Vc O:Key),v1)]).map (·.2)):=by
      rw [uu,uu];exact((Z.rv.mono (hR.tk.trans aJ))).append (L2.IsL.one i6)
     have a4:(don++ [(O,p3)]).length=don.length+1:=by rw [uB];rfl
     have a5:∀(m':Str) (g':Gp),g0D m' (qy qs m')=u_ g'->(∀g2:Gp,Sy.YM (Y:=SyP qs) (don++ [(O,p3)]) m'=u_ g2->∃v,valV (putK ad (Vc O) v2) (Vc m')=u_ v/\Is H6 (Yu (g2.en.getD .non)) v)/\(Sy.YM (Y:=SyP qs) (don++ [(O,p3)]) m'=U_->valV (putK ad (Vc O) v2) (Vc m')=U_):=by
      intro m' g' cg;rw [Xk];by_cases c:m'=O
      ·have aL:Sy.YM (Y:=SyP qs) (don++ [(O,p3)]) m'=(u_ p3:om Gp):=by
        have e1:(don.find? λq=>decide (q.1=m'))=none:=List.find?_eq_none.mpr λq hq e=>aK (by rw [<-c,<-uA e];exact List.mem_map_of_mem hq)
        have e2:((don++ [(O,p3)]).find? λq:Str×Gp=>decide (q.1=m'))=u_ (O,p3):=by rw [RH,e1,c];simp
        show((don++ [(O,p3)]).find? λq:Str×Gp=>decide (q.1=m')).map (·.2)=u_ p3;rw [e2]
        rfl
       exists 5
       refine[λg2 e2=> ?_:λz=> ?_]
       ·have e3:=aL.symm.trans e2;cases e3;rw [Aa (by rw [c])]
        exact[v2:1:j6]
       ·have e3:=aL.symm.trans z;cases e3
      ·have aL:Sy.YM (Y:=SyP qs) (don++ [(O,p3)]) m'=Sy.YM (Y:=SyP qs) don m':=by
        have e2:((don++ [(O,p3)]).find? λq:Str×Gp=>decide (q.1=m'))=don.find? λq:Str×Gp=>decide (q.1=m'):=by
         rw [RH];have:([(O,p3)].find? λq:Str×Gp=>decide (q.1=m'))=none:=by simp;exact λz=>c z.symm
         rw [this,Option.or_none]
        show((don++ [(O,p3)]).find? λq:Str×Gp=>decide (q.1=m')).map (·.2)=(don.find? λq:Str×Gp=>decide (q.1=m')).map (·.2);rw [e2]
       rw [A2 (λz=>c (Uu z))];have aM:(∀g2:Gp,Sy.YM (Y:=SyP qs) don m'=u_ g2->∃v,valV ad (Vc m')=u_ v/\Is H6 (Yu (g2.en.getD .non)) v)/\(Sy.YM (Y:=SyP qs) don m'=U_->valV ad (Vc m')=U_):=(aY.mono aJ) m' g' cg;exact[λg2 e2=>aM.1 g2 (aL.symm.trans e2):λz=>aM.2 (aL.symm.trans z)]
     have a6:xy a.qM a.qo H6 o.x t l:=bp.frame (λb U ob h=>aw.kept b ob (ah.kept b ob h (aH b (ac b U))) (cc b (ac b U))) aJ;have a7:∀q∈don++ [(O,p3)],q.2.en.isSome=true:=by
      intro q hq;rcases Af.mp hq with hq|hq
      ·exact Z.fin q hq
      ·cases Ae.mp hq;exact au
     have eN:Sy.nx (Sy.S0 (SyP qs) n) (i3+1)=Sy.nxt #[Y,(O,p3)::l,don]:=by show Sy.nxt (Sy.nx _ i3)=_;rw [<-aP]
     have a8:=S0_nd (qs:=qs) n (i3+1);rw [eN] at a8;have a9:=nxt_gi hB.q aZ;have bx:OI a.qM a.qo H H6 o n (Sy.nxt #[Y,(O,p3)::l,don]) t (jm uk (Vc gc.n)) (rk++ [(Vc O,v1)]) (putK ad (Vc O) v2):=by
      exists 5
      refine⟨cd,[i3+1:eN.symm],aw.kept _ _ bP (by simp![uC,uD,uO,V3];exact[d2:d3]),aw.kept _ _ bO (by simp![uC,uD,uO,V3];exact[d4:d5]),?_,(),aI,?_,?_,?_,ba,?_,(),?_,ac,Z.sep.2,a9,?_,a8⟩
      ·rwa [ae]
      ·rwa [ae]
      ·rwa [ae]
      ·have e:(Sy.nxt #[Y,(O,p3)::l,don]).don.length=don.length+1:=by rwa [ae]
       omega
      ·rwa [ae]
      ·rwa [ae]
      ·rwa [ae]
     exact⟨_,Vo aC aW,_,t,_,_,_,_,0,1,bx⟩
    ·
     refine iteN (uh (λz=>by cases z)) ?_
     erw[nxt_push (qs:=qs) au hw hy,p',ch,ae];rw [ae] at aC;erw[Sy.JG hy,y1,_,y3];have bV:=lfts_len (Y:=SyP qs) ((O,p3)::l);have aS:((O,p3)::l).length<=Sy.mu #[Y,(O,p3)::l,don]:=uM bV (V5 _ _);have cw:t.length=l.length:=hT.len;have bU:uk.length+Sy.mu #[Y,(O,p)::l,don]<=20001:=bL
     exists 5
     refine⟨0,o.x,o.dx,0,ay.e,Zt o _ (),0,o,m,qs,_,uk,p',1,ay,hB.q,af,?_,aA,(),ch,λgn sn H4 aa aF al bA bB bC aT=> ?_⟩
     ·rw [uB,uc,List.length_reverse,vq];rw [um] at aS;omega
     have aQ:∀b,b∉LO o->b∉ [o.ls,o.du]:=λb U z=>U (by simp![LO,uC,uD,uO] at z⊢;rcases z with z|z;exact .inl z;exact .inr (.inl z))
     have ci:Kp (LO o) H H4:=[λb ob h n=>aa.kept b ob (ap.kept b ob h n) (aQ b n):ap.tk.trans aa.tk];have aH:∀b,H b=U_->b∉ [o.ls,o.du]:=λb U=>aQ b (hB.nlo U);have aN:∀b∈plc gn sn,H b=none:=λb U=>by
      have h3:=aT b U;cases h:H b with
      |none=>rfl
      |some ob=>
       by_cases c:b∈LO o
       ·simp![LO,uC,uD,uO] at c;rcases c with rfl|rfl|rfl|rfl
        ·rw [af] at h3;cases h3
        ·rw [aA] at h3;cases h3
        ·rw [aB] at h3;cases h3
        ·rw [aD] at h3;cases h3
       ·rw [ap.kept b ob h c] at h3;cases h3
     exists _,Vo aC aW,[(m,p')::(O,p3)::l:don],(gn,sn)::(gc,ak)::t,putK uk (Vc m) (.bl v_),rk,ad,_,0,1;have cf:=yM uk (Vc m:Key) (.bl v_)
     exists 5
     refine⟨ci,⟨i3+1,by show _=Sy.nxt (Sy.nx _ i3);rw [<-aP,ae]⟩,?_,al,?_,(),aa.kept _ _ aB (by simp![uC,uD,uO,V3];exact[d2.symm:d4.symm]),Z.rks,Z.rv.mono (hR.tk.trans aa.tk),?_,aa.kept _ _ aD (by simp![uC,uD,uO,V3];exact[d3.symm:d5.symm]),?_,(),?_,?_,?_,?_,Z.fin,?_⟩
     ·rw [aF,V1,V1,uu,uu]
      rfl
     ·intro m';rw [Xk];by_cases c:m'=m
      ·rw [Aa (by rw [c])]
       exact(uf (by rw [c];exact ug)).symm
      ·rw [A2 (λz=>c (Uu z))];refine(Z.uo m').trans ?_;rw [uZ];exact⟨λz=>ud _ z,λz=>by rcases Ac.mp z with z|z;exact absurd z c;exact z⟩
     ·show don.length+_<=_;omega
     ·exact aY.mono aa.tk
     ·exact⟨bA,bB,bC,aO.frame (λb U ob h=>aa.kept b ob h (aH b (aq b U))) aa.tk,ag,bI,bp.frame (λb U ob h=>aa.kept b ob h (aH b (ac b U))) aa.tk⟩
     ·intro b U;rcases Af.mp U with U|U
      ·exact aN b U
      ·rcases Af.mp U with U|U
       ·exact aq b U
       ·exact ac b U
     ·exists 5
      refine[λb U z=> ?_:bq:Z.sep.2];have h3:=aT b U;rcases Af.mp z with z|z
      ·erw[aO.there b z,ob,e];rw [e] at h3;cases h3
      ·erw[bp.there b z,ob,e];rw [e] at h3;cases h3
     ·have:=nxt_gi hB.q aZ;rwa [ae] at this
     ·have:=S0_nd (qs:=qs) n (i3+1);have e:Sy.nx (Sy.S0 (SyP qs) n) (i3+1)=⟨(m,p')::(O,p3)::l,don⟩:=by show Sy.nxt (Sy.nx _ i3)=_;rw [<-aP,ae]
      rwa [e] at this
 have u0:UkOk #[Y,[],[]] []:=λm=>by rw [Kr];rfl
 have f0:FdOk H #[Y,[],[]] []:=λm g hg=>⟨(λg' e=>by cases e),λ_=>Kr⟩
 have g0:SGI #[Y,[],[]]:=λp hp=>by rcases hp with hp|hp<;>cases hp
 exists 5
 refine⟨0,o.x,o.dx,0,hO.e,Zt o _ (),0,o,n,qs,#[Y,[],[]],[],[],1,hO,hB.q,g0,bg,u0,bF,f0,(),(λ_ z=>by cases z),λv H1 fk1 k1 f1 d1 l1 bW y1=> ?_⟩
 have aR:=hB.nd;simp![LO,Ue,uC,uD,uO,V3,vQ,and_true,V0] at aR;erw[aR,[n1,n2,n3],[n4,n5],n6];have aU:∀b,b≠o.df->b∉ [o.df]:=λb U z=>U (Ae.mp z);have aV:Kp (LO o) H H1:=⟨λb ob h z=>k1.kept b ob h (λy=>z (by rw [Ae.mp y];simp [LO])),k1.tk⟩
 have bX:=hB.at aV;have bc:=k1.kept _ _ bD (aU _ n3);have bd:=k1.kept _ _ bg (aU _ n5);have be:=k1.kept _ _ bE (aU _ n6)
 exists 1,0;unfold YetIs at y1;cases hg:(SyP qs).g0 n with
 |none=>
  have ey:Sy.yet #[Y,[],[]] n=u_ (u_ ((SyP qs).once n)):=by
   unfold Sy.yet;rw [A2 (by intro z;cases z),hg]
  rw [ey] at y1;erw[y1,d,i1,i2,_];have cj:d≠ .non:=by
   cases h:(SyP qs).once n with
   |none=>rw [h] at i2;intro z;rw [z] at i2;cases i2
   |some x=>rw [h] at i2;intro z;rw [z] at i2;cases i2
  refine iteN (uh (X8 i1 cj)) ?_;have e0:Sy.S0 (SyP qs) n=⟨[],[]⟩:=by unfold Sy.S0;rw [hg]
  rw [e0] at bG;have l1:fk1.length<=0+1:=l1;exact bH H1 [[]:[]] [] [] [] fk1 ⟨aV,[(0):e0.symm],bc,bd,u0,(by show 0+_<=_;omega),be,1,1,(by show 0+_<=_;omega),f1,d1,(),trivial,(λb U=>by cases U),trivial,g0,(λq hq=>by cases hq),vQ⟩
 |some p=>
  have ey:Sy.yet #[Y,[],[]] n=none:=by
   unfold Sy.yet;rw [A2 (by intro z;cases z),hg]
   rfl
  rw [ey] at y1;cases(show v= .non from y1)
  refine iteB (uf rfl) ?_;have e0:Sy.S0 (SyP qs) n=⟨[(n,p)],[]⟩:=by unfold Sy.S0;rw [hg]
  rw [e0] at bG;have bW:fk1.length=0:=bW ey
  exists 5
  refine⟨0,o.x,o.dx,0,bX.e,Zt o _ (),0,o,n,qs,[],[],p,1,bX,hB.q,bc,(),bd,(),hg,λgn sn H2 k2 am bY bA bB bC aT=> ?_⟩
  have ck:Kp (LO o) H H2:=⟨λb ob h z=>k2.kept b ob (aV.kept b ob h z) (λy=>z (by simp![LO,uC,uD,uO] at y⊢;rcases y with y|y;exact .inl y;exact .inr (.inl y))),aV.tk.trans k2.tk⟩
  have aN:∀b∈plc gn sn,H b=none:=λb U=>by
   have h3:=aT b U;cases h:H b with
   |none=>rfl
   |some ob=>
    by_cases c:b=o.df
    ·rw [c,f1] at h3;cases h3
    ·rw [k1.kept b ob h (aU b c)] at h3;cases h3
  have bf:∀b,b≠o.ls->b≠o.du->b∉ [o.ls,o.du]:=λb h1 h2 z=>by
   simp![uC,uD,uO] at z;rcases z with z|z
   ·exact h1 z
   ·exact h2 z
  refine bH H2 [[(n,p)]:[]] [(gn,sn)] (putK [] (Vc n) (.bl v_)) [] fk1 ⟨ck,[(0):e0.symm],am,bY,?_,?_,k2.kept _ _ be (bf _ (UG n2) (UG n4)),1,1,(by show 0+_<=_;omega),k2.kept _ _ f1 (bf _ (UG n3) (UG n5)),d1.mono k2.tk,(),⟨bA,bB,bC,trivial⟩,?_,⟨λb U z=>(by cases z),trivial⟩,?_,(λq hq=>by cases hq),?_⟩
  ·intro m';rw [Xk];by_cases c:m'=n
   ·rw [Aa (by rw [c])]
    exact(uf (by rw [c];exact ug)).symm
   ·rw [A2 (λz=>c (Uu z)),Kr];exact(uh (λz=>c (Ae.mp z))).symm
  ·have:=yM [] (Vc n:Key) (.bl v_);rw [Uy] at this;omega
  ·intro b U;rcases Af.mp U with U|U
   ·exact aN b U
   ·cases U
  ·intro q hq;rcases hq with hq|hq
   ·cases Ae.mp hq;exact gi_g0 hB.q hg
   ·cases hq
  ·exact List.nodup_cons.mpr ⟨(λz=>by cases z),vQ⟩
end
namespace Sy
variable {Y:Sy}
variable {n0:Str}
theorem yet_F (h:Y.Ok){n:Str}{g:Y.G}{r don:oj (Str×Y.G)}(hs:SOk n0 ([(n,g)::r:don]:Ss Y))(hf:Y.fin g=V9)(hw:Y.want g=u_ m){o:om (om D)}(O:yet ([(n,g)::r:don]:Ss Y) m=u_ o):F Y m=o:=by
 erw[hs,[[s,k,U,hk],c2,c3],nd,Z,bot];unfold yet at O;by_cases c:m∈((n,g)::r).map (·.1)
 ·rw [Aa c] at O;cases O;have w:Wt Y n m:=⟨s,k,U,by rwa [<-hk],by rwa [<-hk]⟩
  rcases Ac.mp c with rfl|hm
  ·exact Xr h (.one w)
  ·exact Xr h (.more (chn_wts (g:=g) [⟨s,k,U,hk⟩:c2:c3] hm) w)
 ·rw [A2 c] at O;cases hg:Y.g0 m with
  |none=>
   rw [hg] at O;cases O;exact F_once h hg
  |some gm=>
   rw [hg] at O;simp only at O;cases hd:YM don m with
   |none=>rw [hd] at O;cases O
   |some gd=>
    rw [hd] at O;cases O;erw[Z _ (zT hd),s',e1,e2];rw [hg] at e1;cases e1;have e3:gd=it Y (F Y) Y.M gm:=e2;rw [F_run h hg,e3]
def Hist (Y:Sy)(ns:oj Str)(n:Str)(g:Y.G):Prop:=∃s k,Y.g0 n=u_ s/\g=it Y (F Y) k s/\∀i,i<k->Y.fin (it Y (F Y) i s)=V9->∀m,Y.want (it Y (F Y) i s)=u_ m->Y.g0 m=U_∨m∈ns
theorem Hist.more {ns O:oj Str}{n:Str}{g:Y.G}(h:Hist Y ns n g)(hn:∀m∈ns,m∈O):Hist Y O n g:=by
 erw[h,s,k,h1,h2,h3];exact⟨s,k,h1,h2,λi hi U m Z=>(h3 i hi U m Z).imp id (hn m)⟩
def Zx (S:Ss Y):oj Str:=S.stk.map (·.1)++S.don.map (·.1)
def Clo (S:Ss Y):Prop:=∀p,p∈S.stk∨p∈S.don->Hist Y (Zx S) p.1 p.2
variable {S:Ss Y}
theorem nxt_clo (h:Y.Ok)(hs:SOk n0 S)(c:Clo S):Clo (nxt S):=by
 erw[S,stk,don];cases stk with
 |nil=>exact c
 |cons p r=>
  erw[p,n,g];have c0:=c (n,g) (.inl ug);have on:∀g',Y.fin g=V9->step Y (F Y) g=g'->(∀m,Y.want g=u_ m->Y.g0 m=U_∨m∈Zx (⟨(n,g)::r,don⟩:Ss Y))->Clo (⟨(n,g')::r,don⟩:Ss Y):=by
   intro g' hf e hm p O;have U:∀m∈Zx (⟨(n,g)::r,don⟩:Ss Y),m∈Zx (⟨(n,g')::r,don⟩:Ss Y):=λm hm=>hm;have top:Hist Y (Zx (⟨(n,g')::r,don⟩:Ss Y)) n g':=by
    erw[c0,s,k,h1,h2,h3];have h2:g=it Y (F Y) k s:=h2;refine⟨s,k+1,h1,by rw [it_snoc,<-h2,e],λi hi aa m hw=> ?_⟩
    by_cases ci:i<k
    ·exact(h3 i ci aa m hw).imp id (U m)
    ·have:i=k:=by omega
     subst this;rw [<-h2] at hw;exact(hm m hw).imp id (U m)
   rcases O with O|O
   ·rcases Ac.mp O with rfl|O
    ·exact top
    ·exact(c p (.inl (ud _ O))).more U
   ·exact(c p (.inr O)).more U
  unfold nxt;simp only;cases hf:Y.fin g with
  |true=>
   rw [Aa rfl];have U:∀m∈Zx (⟨(n,g)::r,don⟩:Ss Y),m∈Zx (⟨r,don++ [(n,g)]⟩:Ss Y):=by
    intro m hm;unfold Zx at hm⊢;simp![ui,uu,Uf,Ui,uC,Af,uD,uO] at hm⊢;rcases hm with hm|hm|hm
    ·exact .inr (.inr hm)
    ·exact .inl hm
    ·exact .inr (.inl hm)
   intro p O;rcases O with O|O
   ·exact(c p (.inl (ud _ O))).more U
   ·rcases Af.mp O with O|O
    ·exact(c p (.inr O)).more U
    ·cases Ae.mp O;exact c0.more U
  |false=>
   rw [A2 u5];have Z:step Y (F Y) g=match Y.want g with
     |none=>Y.own g
     |some m=>match F Y m with
      |some a=>Y.tk g a
      |none=>Y.stuck g m:=by
    unfold step;rw [hf,A2 u5]
    all_goals rfl
   cases hw:Y.want g with
   |none=>exact on _ hf (by rw [Z,hw]) λm z=>by rw [hw] at z;cases z
   |some m=>
    rw [hw] at Z;simp only at Z⊢;cases hy:yet ([(n,g)::r:don]:Ss Y) m with
    |some o=>
     have hF:=yet_F h hs hf hw hy;have hm:∀m',Y.want g=u_ m'->Y.g0 m'=U_∨m'∈Zx (⟨(n,g)::r,don⟩:Ss Y):=by
      intro m' z;rw [hw] at z;cases z;unfold yet at hy;by_cases cm:m∈((n,g)::r).map (·.1)
      ·exact .inr (vH _ cm)
      ·rw [A2 cm] at hy;cases hg:Y.g0 m with
       |none=>exact .inl rfl
       |some gm=>
        rw [hg] at hy;simp only at hy;cases hd:YM don m with
        |none=>rw [hd] at hy;cases hy
        |some gd=>exact .inr (uP _ (Ag.mpr [_:zT hd:1]))
     cases o with
     |some a=>exact on _ hf (by rw [Z,hF]) hm
     |none=>exact on _ hf (by rw [Z,hF]) hm
    |none=>
     simp only;erw[JG hy,h1,[g',hg],h2];rw [hg];have U:∀m'∈Zx (⟨(n,g)::r,don⟩:Ss Y),m'∈Zx (⟨(m,g')::(n,g)::r,don⟩:Ss Y):=λm' hm=>ud _ hm;intro p O;rcases O with O|O
     ·rcases Ac.mp O with rfl|O
      ·exact⟨g',(0),hg,1,λi hi=>absurd hi (rH i)⟩
      ·exact(c p (.inl O)).more U
     ·exact(c p (.inr O)).more U
theorem nx_clo (h:Y.Ok){n0:Str}{S:Ss Y}(O:SOk n0 S)(c:Clo S):∀k,Clo (nx S k)
 |0=>c
 |k+1=>nxt_clo h (nx_ok h O k) (nx_clo h O c k)
theorem S0_clo {n:Str}{g:Y.G}(U:Y.g0 n=u_ g):Clo (S0 Y n):=by
 unfold S0;rw [U];intro p O;rcases O with O|O
 ·cases Ae.mp O;exact⟨g,(0),U,1,λi hi=>absurd hi (rH i)⟩
 ·cases O
theorem end_clo (h:Y.Ok){g0:Y.G}(U:Y.g0 n0=u_ g0){k:Nat}{don:oj (Str×Y.G)}(hk:nx (S0 Y n0) k=[[]:don]){p:Str×Y.G}(hp:p∈don){s:Y.G}(Z:Y.g0 p.1=u_ s){i:Nat}(hf:Y.fin (it Y (F Y) i s)=V9)(hw:Y.want (it Y (F Y) i s)=u_ m):Y.g0 m=U_∨m∈don.map (·.1):=by
 have c:=nx_clo h (S0_ok U) (S0_clo U) k;have ok:=nx_ok h (S0_ok U) k;rw [hk] at c ok;erw[c p (.inr hp),s',k',h1,h2,h3];rw [Z] at h1;cases h1;erw[ok.don p hp,s2,e1,e2];rw [Z] at e1;cases e1;have O:Y.fin (it Y (F Y) k' s)=true:=by
  rw [<-h2,e2];exact it_end h _ _ (h.l0 _ _ Z)
 have aa:i<k':=by
  rcases UN i k' with z|z
  ·exact z
  ·erw[UZ z,d,rfl];rw [Xl,XM O,O] at hf;cases hf
 rcases h3 i aa hf m hw with z|z
 ·exact .inl z
 ·exact .inr (by simpa [Zx] using z)
end Sy
section
variable {qs qs':oj (Str×D)}
noncomputable abbrev FP (qs:oj (Str×D)):Sy.Orc:=Sy.F (SyP qs)
noncomputable abbrev itP (qs:oj (Str×D)) (k:Nat) (g:Gp):Gp:=Sy.it (SyP qs) (FP qs) k g
theorem xz (g:Gp):Sy.step (SyP qs) (FP qs) g=if g.en.isSome=v_ then g else match QU g with
  |none=>ownP qs g
  |some m=>match FP qs m with
   |some a=>Yn g (a.getD .non)
   |none=>stkP g m:=rfl
theorem parts_at:∀(n:Nat) (g:Gp),itP qs n g≠itP qs' n g->∃k c,k<n/\itP qs k g=c/\itP qs' k g=c/\c.en=U_/\((QU c=U_/\ownP qs c≠ownP qs' c)∨∃m,QU c=u_ m/\FP qs m≠FP qs' m)
 |0,g,h=>absurd rfl h
 |n+1,g,h=>by
  by_cases e:Sy.step (SyP qs) (FP qs) g=Sy.step (SyP qs') (FP qs') g
  ·have h2:itP qs n (Sy.step (SyP qs) (FP qs) g)≠itP qs' n (Sy.step (SyP qs) (FP qs) g):=λz=>h (by
    show itP qs n (Sy.step (SyP qs) (FP qs) g)=itP qs' n (Sy.step (SyP qs') (FP qs') g);rwa [<-e])
   erw[parts_at n _ h2,k,c,hk,h3,h4,h5];refine⟨k+1,c,(),h3,?_,h5⟩
   show itP qs' k (Sy.step (SyP qs') (FP qs') g)=c;rwa [<-e]
  ·exists (0),g,(),1,1
   have O:g.en=none:=by
    cases Z:g.en with
    |none=>rfl
    |some d=>
     refine absurd ?_ e;rw [xz,xz,Z]
     rfl
   exists O;rw [xz,xz,O] at e;cases U:QU g with
   |none=>
    rw [U] at e;exact .inl ⟨1,λz=>e (by rw [z])⟩
   |some m=>
    rw [U] at e;refine .inr [m:1:λz=>e ?_];simp only;rw [z]
def QA (p:Gp):oj D:=p.ra++runPG' p.run
where runPG':om (oj Rw×Rn)->oj D
 |none=> []
 |some (_,r)=>r.gs
def GA (g:Gp):Prop:=g.run=U_->g.en=U_->g.ra= []
theorem runS_gs {rs:oj Rw}{own:Str}{gs:oj D}:∀(f:Nat) (B:Str->D) (p:Int) (n:Nat),(runS rs own gs f B p n).gs=gs
 |0,B,p,n=>rfl
 |f+1,B,p,n=>by
  unfold runS;by_cases c:p>rs.length
  ·rw [Aa c]
  ·rw [A2 c];cases U:rowO own (jW rs p) B p with
   |go O p'=>exact runS_gs f O p' (n+1)
   |stop e=>rfl
theorem ansS_gs {r:Rn}{a:D}:(ansS rs own r a).gs=r.gs++ [.tup [X4 r.th,a]]:=by
 unfold ansS;split
 ·rfl
 ·exact runS_gs _ _ _ _
theorem asks_beg (h:g.run=U_)(d:D):QA (begP g d)=g.ra/\GA (begP g d):=by
 unfold begP;split
 ·refine⟨?_,λ_ z=>by cases z⟩
  show g.ra++QA.runPG' g.run=g.ra;rw [h];exact uW _
 ·cases hd:Q7 d with
  |none=>
   refine⟨?_,λ_ z=>by cases z⟩
   show g.ra++QA.runPG' g.run=g.ra;rw [h];exact uW _
  |some rs=>
   refine⟨?_,λz=>by cases z⟩
   show g.ra++(R0 rs g.n).gs=g.ra;rw [show(R0 rs g.n).gs= [] from runS_gs _ _ _ _]
   exact uW _
theorem Yx (ha:GA g)(he:g.en=U_)(d:D):QA (Yn g d)=QA g++ [.tup [yP g,d]]/\GA (Yn g d):=by
 unfold Yn;cases O:g.run with
 |none=>
  have U:=ha O he;erw[asks_beg (g:=⟨g.n,g.mb,[.tup [.tup [.str "rule",g.mb],d]],U_,g.en⟩) rfl d,h1,h2];refine[h1.trans ?_:h2];have e1:QA g= []:=by unfold QA;rw [U,O];rfl
  have Z:yP g= .tup [.str "rule",g.mb]:=by unfold yP;rw [O]
  rw [e1,Z]
  rfl
 |some p=>
  erw[p,rs,r];refine⟨?_,λz=>by cases z⟩
  show g.ra++(ansS rs g.n r d).gs=QA g++_;have Z:yP g=X4 r.th:=by unfold yP;rw [O]
  have e3:QA g=g.ra++r.gs:=by unfold QA;rw [O];rfl
  rw [ansS_gs,Z,e3,vv]
theorem ga_g0 {d:D}(h:g0D m d=u_ g):GA g/\QA g= []:=by
 unfold g0D at h;split at h
 ·split at h
  ·cases h
  ·split at h
   ·cases h;exact[λ_ _=>rfl:1]
   ·cases h;erw[asks_beg (g:=⟨m,.non,[],U_,U_⟩) rfl _,h1,h2];exact[h2:h1]
 ·cases h
theorem once_ok (U:Qn qs)(O:g0D m (qy qs m)=U_):zg ((onceD (qy qs m)).getD .non):=by
 by_cases hm:m∈qs.map (·.1)
 ·erw[zX U hm,hn,k,e,hd,h1,h2];rw [hd] at O⊢;unfold g0D at O;simp only at O;by_cases c:k="leaf"
  ·exact .inr (h2 (by rw [c];decide+kernel)).2
  ·rw [A2 c] at O;split at O<;>cases O
 ·rw [yE hm];exact .inl rfl
theorem wR (Z:Qn qs){f:Sy.Orc}(hf:∀m a,f m=u_ a->zg (a.getD .non))(h:GI g)(ha:GA g):GI (Sy.step (SyP qs) f g)/\GA (Sy.step (SyP qs) f g):=by
 have e:Sy.step (SyP qs) f g=if g.en.isSome=v_ then g else match QU g with
  |none=>ownP qs g
  |some m=>match f m with
   |some a=>Yn g (a.getD .non)
   |none=>stkP g m:=rfl
 rw [e];cases O:g.en with
 |some d=>exact[h:ha]
 |none=>
  simp![Uo,A2 u5];cases U:QU g with
  |none=>
   erw[JH (qs:=qs) h O U,rs,r,k,z,_,_,hk,_,e];exists gi_own Z h O U;show GA (ownP qs g);rw [e];exact(Yx ha O _).2
  |some m=>
   simp only;cases hm:f m with
   |some a=>exact[gi_take h O (hf m a hm):(Yx ha O _).2]
   |none=>exact⟨gi_stk h m,λ_ z=>by cases z⟩
theorem it_gi (O:Qn qs){f:Sy.Orc}(U:∀m a,f m=u_ a->zg (a.getD .non)):∀(k:Nat) {g:Gp},GI g->GA g->GI (Sy.it (SyP qs) f k g)/\GA (Sy.it (SyP qs) f k g)
 |0,g,h,ha=>[h:ha]
 |k+1,g,h,ha=>it_gi O U k (wR O U h ha).1 (wR O U h ha).2
theorem Fh_ok (U:Qn qs):∀(k:Nat) (m:Str) (a:om D),Sy.Fh (SyP qs) k m=u_ a->zg (a.getD .non)
 |0,m,a,h=>by
  cases O:(SyP qs).g0 m with
  |none=>rw [Sy.zr O] at h;cases h;exact once_ok U O
  |some g=>rw [Sy.wW O] at h;cases h
 |k+1,m,a,h=>by
  cases O:(SyP qs).g0 m with
  |none=>rw [Sy.zr O] at h;cases h;exact once_ok U O
  |some g=>
   rw [Sy.WZ O] at h;have Z:=it_gi U (Fh_ok U k) 302 (gi_g0 U O).1 (ga_g0 O).1;cases hs:(SyP qs).said (Sy.it (SyP qs) (Sy.Fh (SyP qs) k) (SyP qs).M g) with
   |none=>rw [hs] at h;cases h
   |some v=>
    rw [hs] at h;cases h;exact .inr (said_ok Z.1 hs)
theorem F_ok (O:Qn qs)(m:Str)(a:om D)(h:FP qs m=u_ a):zg (a.getD .non):=by
 erw[(Sy.Ko (QI qs)).mp h,k,h];exact Fh_ok O k m a h
theorem itP_gi (O:Qn qs)(U:g0D m (qy qs m)=u_ g)(k:Nat):GI (itP qs k g)/\GA (itP qs k g):=it_gi O (F_ok O) k (gi_g0 O U).1 (ga_g0 U).1
theorem step_asks (ha:GA g):∃l,QA (Sy.step (SyP qs) (FP qs) g)=QA g++l:=by
 rw [xz];cases O:g.en with
 |some d=>exact[[]:(uW _).symm]
 |none=>
  simp![Uo,A2 u5];cases U:QU g with
  |none=>
   show∃l,QA (ownP qs g)=_;unfold ownP;split
   ·exact[_:(Yx ha O _).1]
   ·exact[[]:(uW _).symm]
  |some m=>
   simp only;cases FP qs m with
   |some a=>exact[_:(Yx ha O _).1]
   |none=>exact[[]:(uW _).symm]
theorem it_asks (O:Qn qs):∀(k:Nat) {g:Gp},GI g->GA g->∃l,QA (itP qs k g)=QA g++l
 |0,g,h,ha=>[[]:(uW _).symm]
 |k+1,g,h,ha=>by
  erw[step_asks (qs:=qs) ha,U,Z];erw[wR O (F_ok O) h ha,h1,h2];erw[it_asks O k h1 h2,l2,e2];exists U++l2;show QA (itP qs k (Sy.step (SyP qs) (FP qs) g))=_;rw [e2,Z,vv]
def Bhd (qs:oj (Str×D))(c:Gp)(l:oj D):Prop:=
 (∀kd z,QU c=U_->yP c= .tup [.str kd,.str z]->∃r,l= .tup [yP c,JV qs kd z]::r)/\
 ∀m,QU c=u_ m->(∀a,FP qs m=u_ a->∃r,l= .tup [yP c,a.getD .non]::r)/\(FP qs m=U_->l= [])
variable {c:Gp}
theorem behind (hq:Qn qs)(h:GI c)(ha:GA c)(he:c.en=U_)(j:Nat):∃l,QA (itP qs (j+1) c)=QA c++l/\Bhd qs c l:=by
 erw[wR hq (F_ok hq) h ha,h1,h2];erw[it_asks hq j h1 h2,l2,e2];have e0:QA (itP qs (j+1) c)=QA (Sy.step (SyP qs) (FP qs) c)++l2:=e2;have es:=xz (qs:=qs) c;rw [he] at es;simp![Uo,A2 u5] at es;cases O:QU c with
 |none=>
  rw [O] at es;erw[JH (qs:=qs) h he O,rs,r,k,z,ac,ad,hk,_,e];have es:Sy.step (SyP qs) (FP qs) c=Yn c (JV qs k z):=es.trans e;rw [es,(Yx ha he _).1,vv] at e0;refine⟨_,e0,λkd y _ U=> ?_,λm z=>by cases O.symm.trans z⟩
  have Z:kd=k/\y=z:=by
   have hp:yP c= .tup [.str k,.str z]:=by
    unfold yP;rw [ac];show X4 r.th=_;rw [ad]
    rfl
   rw [hp] at U;cases U;exact[1:1]
  rw [Z.1,Z.2];exact⟨0⟩
 |some m=>
  rw [O] at es;simp only at es;cases hf:FP qs m with
  |some a=>
   rw [hf] at es;rw [es,(Yx ha he _).1,vv] at e0;refine⟨_,e0,(λkd y z=>by cases O.symm.trans z),λm' z=> ?_⟩
   cases O.symm.trans z;exact⟨(λb hb=>by rw [hf] at hb;cases hb;exact⟨0⟩),λz=>by rw [hf] at z;cases z⟩
  |none=>
   rw [hf] at es;have aa:itP qs (j+1) c=stkP c m:=by
    show itP qs j (Sy.step (SyP qs) (FP qs) c)=_;rw [es];exact Sy.XM (Y:=SyP qs) rfl j
   refine⟨[],?_,(λkd y z=>by cases O.symm.trans z),λm' z=> ?_⟩
   ·rw [aa,uW]
    rfl
   ·cases O.symm.trans z;exact⟨(λb hb=>by rw [hf] at hb;cases hb),λ_=>rfl⟩
theorem parting (hq:Qn qs)(Z:Qn qs'){n:Str}(hg:g0D n (qy qs n)=u_ g)(ac:g0D n (qy qs' n)=u_ g)(aa:itP qs 302 g≠itP qs' 302 g):
  ∃c ly O,GI c/\c.en=U_/\QA (itP qs 302 g)=QA c++ly/\QA (itP qs' 302 g)=QA c++O/\Bhd qs c ly/\Bhd qs' c O/\(∃k,itP qs k g=c)/\(∃k,itP qs' k g=c)/\
   ((QU c=U_/\ownP qs c≠ownP qs' c)∨∃m,QU c=u_ m/\FP qs m≠FP qs' m):=by
 erw[parts_at 302 g aa,k,c,hk,h1,h2,h3,h4];obtain⟨j,hj⟩:=UZ (show k+1<=302 by omega)
 have hj:302=k+(j+1):=by omega
 erw[itP_gi hq hg k,U,g2];rw [h1] at U g2;erw[behind hq U g2 h3 j,ly,e1,b1];erw[behind Z U g2 h3 j,O,e2,b2];have i1:itP qs 302 g=itP qs (j+1) c:=by
  have:=Sy.Xl (Y:=SyP qs) (f:=FP qs) k (j+1) g;rw [<-hj] at this;exact this.trans (by show itP qs (j+1) (itP qs k g)=_;rw [h1])
 have i2:itP qs' 302 g=itP qs' (j+1) c:=by
  have:=Sy.Xl (Y:=SyP qs') (f:=FP qs') k (j+1) g;rw [<-hj] at this;exact this.trans (by show itP qs' (j+1) (itP qs' k g)=_;rw [h2])
 exact⟨c,ly,O,U,h3,by rwa [i1],by rwa [i2],b1,b2,[k:h1],[k:h2],h4⟩
theorem unlike_runs {n:Str}(hs:qy qs n=qy qs' n)(U:FP qs n≠FP qs' n):∃g,g0D n (qy qs n)=u_ g/\g0D n (qy qs' n)=u_ g/\itP qs 302 g≠itP qs' 302 g:=by
 cases Z:g0D n (qy qs n) with
 |none=>
  have O:g0D n (qy qs' n)=none:=by rw [<-hs];exact Z
  refine absurd ?_ U;show Sy.F (SyP qs) n=Sy.F (SyP qs') n;rw [Sy.F_once (QI qs) Z,Sy.F_once (QI qs') O];show u_ (onceD (qy qs n))=u_ (onceD (qy qs' n));rw [hs]
 |some g=>
  have O:g0D n (qy qs' n)=u_ g:=by rw [<-hs];exact Z
  refine⟨g,1,O,λz=>U ?_⟩;show Sy.F (SyP qs) n=Sy.F (SyP qs') n;rw [Sy.F_run (QI qs) Z,Sy.F_run (QI qs') O];show(Zr (itP qs 302 g)).map u_=(Zr (itP qs' 302 g)).map u_;rw [z]
theorem sooner {n:Str}(O:g0D n (qy qs n)=u_ g)(U:∃k,itP qs k g=c)(Z:c.en=U_)(hw:QU c=u_ m){k:Nat}{a:om D}(h:Sy.Fh (SyP qs) k n=u_ a):∃j b,j<k/\Sy.Fh (SyP qs) j m=u_ b:=by
 erw[U,i,hi];refine Sy.wt_less (QI qs) ⟨g,i,O,?_,?_⟩ h
 ·show(itP qs i g).en.isSome=V9;rw [hi,Z]
  rfl
 ·show QU (itP qs i g)=u_ m;rw [hi];exact hw
end
def Dn (qs:oj (Str×D))(n:Str)(don:oj (Str×Gp)):Prop:=∃j,Sy.nx (Sy.S0 (SyP qs) n) j=[[]:don]
section
variable {qs:oj (Str×D)}{n:Str}{don don':oj (Str×Gp)}
theorem dn_one (h:Dn qs n don)(k:Dn qs n don'):don=don':=by
 erw[h,i,hi];erw[k,j,O];have e:=Sy.nx_one (S:=Sy.S0 (SyP qs) n) (k:=i) (j:=j) (by rw [hi]) (by rw [O])
 rw [hi,O] at e;exact congrArg Sy.Ss.don e
theorem dn_none (O:g0D n (qy qs n)=U_)(h:Dn qs n don):don= []:=by
 have U:Sy.S0 (SyP qs) n=⟨[],[]⟩:=by unfold Sy.S0;rw [show(SyP qs).g0 n=U_ from O]
 exact dn_one h [(0):U]
theorem dn_ok (O:g0D n (qy qs n)=u_ g)(h:Dn qs n don):Sy.SOk (Y:=SyP qs) n [[]:don]:=by
 erw[h,j,U];rw [<-U];exact Sy.nx_ok (QI qs) (Sy.S0_ok O) j
theorem dn_last (O:g0D n (qy qs n)=u_ g)(h:Dn qs n don):(don.map (·.1)).getLast? =u_ n:=by
 rcases(dn_ok O h).bot with b|⟨_,b⟩
 ·cases b
 ·exact b
theorem dn_mem (h:Dn qs n don){p:Str×Gp}(O:p∈don):∃s,g0D p.1 (qy qs p.1)=u_ s/\p.2=Sy.it (SyP qs) (Sy.F (SyP qs)) 302 s:=by
 cases U:g0D n (qy qs n) with
 |none=>rw [dn_none U h] at O;cases O
 |some g=>exact(dn_ok U h).don p O
theorem dn_nd (h:Dn qs n don):(don.map (·.1)).Nodup:=by
 cases O:g0D n (qy qs n) with
 |none=>rw [dn_none O h];exact vQ
 |some g=>exact(dn_ok O h).nd
end
def asksP (p:Gp):D:= .tup (p.ra++runPG p.run)
def endP (p:Gp):D:=p.en.getD .non
theorem KO (p:Gp):Y7 p= .tup [asksP p,endP p]:=rfl
theorem rk_vs:∀{rk:oj (Key×V)}{don:oj (Str×Gp)},(rk.map (·.1)=don.map λp=>Vc p.1)->∃vs:oj (Str×V),rk=inrK vs/\vs.map (·.1)=don.map (·.1)/\vs.map (·.2)=rk.map (·.2)
 | [],[],_=>⟨[],1,1,1⟩
 | [],_::_,h=>by cases h
 |_::_,[],h=>by cases h
 |(k,v)::r,p::l,h=>by
  injection h with h1 h2
  erw[rk_vs h2,vs,O,U,Z];refine⟨(p.1,v)::vs,?_,?_,?_⟩
  ·rw [Xw,<-O];have h1:k=Vc p.1:=h1;rw [h1]
  ·rw [ui,ui,U]
  ·rw [ui,ui,Z]
theorem gi_nd {p:Gp}(h:GI p)(O:p.en.isSome=v_):nD (asksP p)=v_/\dp (asksP p)<=31/\nD (endP p)=v_/\dp (endP p)<=20:=by
 have h1:nL (p.ra++runPG p.run)=v_/\dpL (p.ra++runPG p.run)<=30:=by
  cases hr:p.run with
  |none=>exact⟨nL_app h.ra.1 rfl,dpL_app 30 h.ra.2.1 (by simp [dpL,runPG])⟩
  |some q=>
   erw[q,rs,r];have h2:=(h.run rs r hr).2.1.gs;exact[nL_app h.ra.1 h2.1:dpL_app 30 h.ra.2.1 h2.2.1]
 refine⟨h1.1,by show 1+_<=31;omega,?_⟩
 unfold endP;cases U:p.en with
 |none=>rw [U] at O;cases O
 |some d=>
  show nD d=v_/\dp d<=20;rcases h.en d U with⟨z,rfl⟩|⟨x,rfl,Z⟩|⟨z,rfl⟩
  ·exact⟨1,by show dp (.tup [.str "fault",.str z])<=20;simp [dp,dpL]⟩
  ·have:=J0 Z;refine[?_:?_]
   ·simp![nD,nL,WE (yt Z),vU]
   ·simp![dp,dpL];omega
  ·exact⟨1,by simp [dp,dpL]⟩
variable {don:oj (Str×Gp)}
theorem dn_yet {n:Str}(h:Dn qs n don)(hm:g0D m (qy qs m)=U_∨m∈don.map (·.1)):Sy.yet #[Y,[],don] m=u_ (FP qs m):=by
 cases U:(SyP qs).g0 m with
 |none=>
  unfold Sy.yet;rw [A2 (by intro z;cases z),U]
  show u_ (u_ ((SyP qs).once m))=u_ (FP qs m);rw [show FP qs m=_ from Sy.F_once (QI qs) U]
 |some g=>
  rcases hm with hm|hm
  ·rw [show(SyP qs).g0 m=U_ from hm] at U;cases U
  ·erw[Ag.mp hm,[O,p],hp,rfl];have hd:Sy.YM (Y:=SyP qs) don O=u_ p:=by
    have Z:=dn_nd h;unfold Sy.YM;have:(don.find? λq=>decide (q.1=O))=u_ (O,p):=by
     clear h hm
     induction don with
     |nil=>cases hp
     |cons q r ih=>
      rw [ui,Ue] at Z;rcases Ac.mp hp with rfl|hp
      ·rw [v7,uf rfl]
      ·have aa:q.1≠O:=λz=>Z.1 (by rw [z];exact Ag.mpr [_:hp:1])
       rw [v7,uh aa];exact ih hp Z.2
    have e2:(List.find? (λq:Str×Gp=>decide (q.1=O)) don).map (·.2)=u_ p:=by rw [this];rfl
    exact e2
   erw[dn_mem h hp,s,e2,e3];have e2:(SyP qs).g0 O=u_ s:=e2;rw [U] at e2;cases e2;unfold Sy.yet;rw [A2 (by intro z;cases z),U]
   show(Sy.YM (Y:=SyP qs) don O).map (λg=>((SyP qs).said g).map u_)=u_ (FP qs O);rw [hd];show u_ (((SyP qs).said p).map u_)=u_ (FP qs O);rw [show FP qs O=_ from Sy.F_run (QI qs) U]
   have e3:p=Sy.it (SyP qs) (Sy.F (SyP qs)) 302 g:=e3;rw [e3]
   rfl
def stdD (o:om (om D)):D:=match o with
 |some (u_ v)=> .tup [.str "value",v]
 |some U_=> .tup [.str "lack"]
 |none=> .tup [.str "none"]
end K67
namespace K67
open PySem L2 PyProof.Rows
structure OrdF (CO CP:o3)(H0 H:Hp)(qs:oj (Str×D))(n:Str)(o:Oc)(rk uk fk:oj (Key×V))(don:oj (Str×Gp)):Prop where
 sm:Same H0 H
 oa:OAt CO CP H o qs
 dr:H o.dr=u_ (.dK rk)
 ks:rk.map (·.1)=don.map λp=>Vc p.1
 vs:L2.IsL H (don.map λp=>Y7 p.2) (rk.map (·.2))
 du:H o.du=u_ (.dK uk)
 uo:UkOk #[Y,[],don] uk
 df:H o.df=u_ (.dK fk)
 fd:FdOk H #[Y,[],don] fk
 fl:fk.length<=20101
 dn:Dn qs n don
 sg:SGI #[Y,[],don]
 gi:∀p∈don,GI p.2/\p.2.en.isSome=v_
 len:don.length<=20001
 new:H0 o.x=U_/\H0 o.dr=U_/\H0 o.du=U_/\H0 o.df=U_
 ne:o.dr≠o.df/\o.du≠o.df
variable {CO CP:o3}{H0 H H':Hp}{qs:oj (Str×D)}{rk uk fk:oj (Key×V)}{don:oj (Str×Gp)}
theorem OrdF.same {n:Str}{o:Oc}(h:OrdF CO CP H0 H qs n o rk uk fk don)(s:Same H H'):OrdF CO CP H0 H' qs n o rk uk fk don:=
 ⟨h.sm.trans s,[s _ _ h.oa.e:h.oa.p.same s],s _ _ h.dr,h.ks,h.vs.mono s.tk,s _ _ h.du,h.uo,s _ _ h.df,h.fd.mono s.tk,h.fl,h.dn,h.sg,h.gi,h.len,h.new,h.ne⟩
variable {b:o3}
theorem OrdF.away {n:Str}{o:Oc}{xs:oj (Key×V)}(h:OrdF CO CP H0 H qs n o rk uk fk don)(k:Kp [b] H H')(U:H b=u_ (.dK xs))(nb:b≠o.dr/\b≠o.du/\b≠o.df)(Z:Same H0 H'):OrdF CO CP H0 H' qs n o rk uk fk don:=by
 have O:∀c,c≠b->c∉ [b]:=λc hc z=>hc (Ae.mp z);exact⟨Z,h.oa.kp k (by intro p hp;cases Ae.mp hp;exact .inr (.inl [_:U])),k.kept _ _ h.dr (O _ nb.1.symm),h.ks,h.vs.mono k.tk,k.kept _ _ h.du (O _ nb.2.1.symm),h.uo,k.kept _ _ h.df (O _ nb.2.2.symm),h.fd.mono k.tk,h.fl,h.dn,h.sg,h.gi,h.len,h.new,h.ne⟩
inductive sp_chk (vs:List V) (H:Hp) (Q:VK) (E_:XK):Prop
 |mk (z:_) (_:vs= [.str z]) (_:nm z=v_) (_:∀H',Same H H'->Q .non H')
inductive sp_chks (vs:List V) (H:Hp) (Q:VK) (E_:XK):Prop
 |mk (t:_) (z:_) (_:vs= [.ref t]) (_:H t=u_ (.tup [.str z])) (_:nm z=v_) (_:∀H',Same H H'->Q .non H')
inductive sp_over (CO CP:Addr) (vs:List V) (H:Hp) (Q:VK) (E_:XK):Prop
 |mk (px t:Addr) (n:Str) (qs:List (Str×D)) (_:vs= [.ref px,.ref t]) (_:H t=u_ (.tup [.str n])) (_:nm n=v_) (_:Q5 CP H px qs) (_:Qn qs) (_:∀H' o rk uk fk don,o.px=px->OrdF CO CP H H' qs n o rk uk fk don->fk.length<=20001->Q (.ref o.x) H')
inductive sp_from (CO CP:Addr) (vs:List V) (H:Hp) (Q:VK) (E_:XK):Prop
 |mk (px:Addr) (n:Str) (qs:List (Str×D)) (_:vs= [.ref px,.str n]) (_:nm n=v_) (_:Q5 CP H px qs) (_:Qn qs) (_:∀H' o rk uk fk don,o.px=px->OrdF CO CP H H' qs n o rk uk fk don->fk.length<=20001->Q (.ref o.x) H')
inductive We (CO CP:Addr) (vs:List V) (H:Hp) (Q:VK) (E_:XK):Prop
 |mk (H0:Hp) (o:Oc) (qs:List (Str×D)) (n m:Str) (rk uk fk:List (Key×V)) (don:List (Str×Gp)) (_:vs= [.ref o.x,.str m]) (_:Qn qs) (_:OrdF CO CP H0 H qs n o rk uk fk don) (_:fk.length<=20100) (_:(g0D m (qy qs m)=U_∨m∈don.map (·.1))) (_:∀v H' fk',Kp [o.df] H H'->OrdF CO CP H0 H' qs n o rk uk fk' don->fk'.length<=fk.length+1->Is H' (stdD (FP qs m)) v->Q v H')
inductive ZP (CP:Addr) (vs:List V) (H:Hp) (Q:VK) (E_:XK):Prop
 |mk (px:Addr) (n:Str) (qs:List (Str×D)) (_:vs= [.ref px,.str n]) (_:nm n=v_) (_:Q5 CP H px qs) (_:Qn qs) (_:∀v H',Same H H'->Is H' (stdD (FP qs n)) v->Q v H')
theorem XZ {n:Str}(h:Dn qs n don):g0D n (qy qs n)=U_∨n∈don.map (·.1):=by
 cases O:g0D n (qy qs n) with
 |none=>exact .inl rfl
 |some g=>exact .inr (Fp (dn_last O h))
section
variable {P:o9}{w:og}{K:o0}{mg:Str->om o6}{base:o8}{a:Ad}{g:Ga}
theorem ok_chk (T:Tx K mg a):#[K,2,a.zH,a.Zk,["name"],sp_chk]:=by
 have U:=#[X3,T];exists 9,T.g_check_name,Kw,Z
 erw[h,z,rfl,O,k];have hl:=w9 O;exists 3,%[|#[qL,#[QE,#[Qr,#[qt,U,Z.mono (),T.g_is_name,#v[pv 0]]]],%[|YQ],qx]]
 exists 5
 refine⟨0,.str z,.str z,1,yl (),λH1 s1=>[0:?_]⟩
 have e:isNm (.str z)=true:=O;rw [e];exact iteF (k H1 s1)
theorem ok_chks (T:Tx K mg a):#[K,3,a.Xs,a.Xi,["names"],sp_chks]:=by
 have O:=#[ok_chk,T];exists 9,T.g_check_names,JZ
 erw[h,t,z,rfl,Z,hz,k];exists 3,%[|#[jf,#[pi_tup,4,pv 0],#[qZ,(1),JZ.nd],%[|#[qY,#[qt,O,hr.mono (),T.g_check_name,#v[pv 1]]]]]]
 exists 0,t,1,[_:SqT.of Z];refine KM (xs:= [.str z]) (λi σ H'=>(∃u,σ= [u_ (.ref t),u])/\Same H H') [⟨0⟩:Same.refl _] (λi σ H' _ h=>SqT.of (h.2 _ _ Z)) ?_ ?_
 ·rintro i x σ H' hx ⟨⟨u,rfl⟩,s1⟩;have U:x= .str z:=by
   cases i with
   |zero=>exact(uK hx).symm
   |succ i=>cases hx
  subst U;exact⟨0,z,1,hz,λH2 s2=>[⟨0⟩:s1.trans s2]⟩
 ·rintro σ H' ⟨_,s1⟩;exact k H' s1
theorem ok_over (T:Tx K mg a)(C:Fx K w mg g a):#[K,14,a.zJ,a.zZ,["project","names"],(sp_over a.qm a.qC)]:=by
 have kQ:=#[ok_chks,T];have X9:=#[ok_oinit,T];have jp:=#[ok_thru,T,C];exists 9,T.g_order_over,jC
 erw[h,px,t,n,qs,rfl,ht,hn,hP,hq,k1];exists 3,%[#[qY,#[qt,kQ,hr.mono (),T.g_check_names,#v[pv 1]]],#[qD,(2),jC.nd,#[zt,T.M_PlainOrder,X9,hr.mono (),T.m_PlainOrder,T.g_PlainOrder_init,qA,#v[pv 0]]],#[jf,#[pi_tup,4,pv 1],#[qZ,(3),jC.nd],%[|#[qY,#[Qi,pv 2,T.qw,T.g_PlainOrder_go_through,jp,#v[pv 3]]]]]|#[qr,pv 2]]
 exists 8,N1,q1
 exists 5
 refine⟨0,t,n,1,ht,hn,λH1 s1=>q1 _ _ ?_⟩;exists 8,N2,q2
 exists 5
 refine[0:λx dx hx aq nx=> ?_];have s0:Same H1 (upd (upd H1 dx (.own x)) x (.ins a.qm dx [])):=λb o h=>by rwa [qh (ql h hx),qh (ql h aq)]
 exists 5
 refine⟨x,dx,px,1,qg,λo H2 eo au aw kp tk f1 f2 f3 f4 nd ac ad ae af ag=>[1:q2 _ _ ?_]⟩;exists 8,N3,q3;have ax:Same H1 H2:=λb ob h=>kp b ob (s0 b ob h) (ql h hx);have O:=s1.trans ax;have ah:=O _ _ ht;subst eo au aw;have hB:Bs a.qm a.qC H2 o qs:=⟨[ac:hP.same O],[_:ad],[_:ae],[_:af],[_:ag],nd,hq⟩
 exists 0,t,1,[_:SqT.of ah];have fr:∀b,upd (upd H1 o.dx (.own o.x)) o.x (.ins a.qm o.dx []) b=U_->H b=none:=λb U=>by
  cases e:H b with
  |none=>rfl
  |some ob=>rw [s0 b ob (s1 b ob e)] at U;cases U
 let J_:Nat->L2.St->Hp->Prop:=λi σ H'=>(∃u,σ= [u_ (.ref o.px),u_ (.ref t),u_ (.ref o.x),u])/\((i=0/\H'=H2)∨(i=1/\∃rk uk fk don,OrdF a.qm a.qC H H' qs n o rk uk fk don/\fk.length<=20001))
 refine KM (xs:= [.str n]) J_ [⟨0⟩:.inl [1:1]] (λi σ H' _ h=> ?_) ?_ ?_
 ·rcases h.2 with⟨_,rfl⟩|⟨_,rk,uk,fk,don,h,_⟩
  ·exact SqT.of ah
  ·exact SqT.of (h.sm _ _ ht)
 ·rintro i x' σ H' ak ⟨⟨u,rfl⟩,h⟩;have Z:x'= .str n/\i=0:=by
   cases i with
   |zero=>exact[(uK ak).symm:1]
   |succ i=>cases ak
  erw[Z,rfl,rfl];rcases h with⟨_,rfl⟩|⟨z,_⟩
  ·exists 5
   refine⟨0,o.x,o.dx,0,ac,Zt o _ (),0,o,qs,n,1,hB,ad,ae,af,ag,λH3 rk uk fk don j al ay am aA aB aC k3 aD ao aE aF aG ap=> ?_⟩
   have out:∀b,H b≠U_->b∉LO o:=λb U z=>by
    simp![LO,uC,uD,uO] at z;rcases z with rfl|rfl|rfl|rfl
    ·exact U (fr _ f1)
    ·exact U (fr _ f2)
    ·exact U (fr _ f3)
    ·exact U (fr _ f4)
   have aa:=nd;simp![Ue,uC,uD,uO,V3,vQ,and_true,V0] at aa;have Z:H o.x=none:=by
    cases e:H o.x with
    |none=>rfl
    |some ob=>rw [s1 _ _ e] at hx;cases hx
   exact⟨⟨0⟩,.inr ⟨1,rk,uk,fk,don,⟨λb ob e=>k3.kept b ob (O b ob e) (out b (by rw [e];intro z;cases z)),hB.at k3,ao,aE,aF,al,ay,am,aA,(),[j:aD],aC,aG,ap,⟨Z,fr _ f3,fr _ f2,fr _ f4⟩,[aa.2.2:aa.2.1.2]⟩,aB⟩⟩
  ·cases z
 ·rintro σ H' ⟨⟨u,rfl⟩,h⟩;rcases h with⟨z,_⟩|⟨_,rk,uk,fk,don,h,hl⟩
  ·cases z
  ·exact q3 _ _ [0:k1 H' o rk uk fk don rfl h hl]
theorem kH (T:Tx K mg a)(C:Fx K w mg g a):#[K,15,a.zR,a.Zh,["project","name"],(sp_from a.qm a.qC)]:=by
 have O:=#[ok_over,T,C];exists 9,T.g_order_from,Kq,U
 erw[h,px,n,qs,rfl,hn,Z,hq,k1];have hs:=uF;exists 3,%[|#[qr,#[qt,O,U.mono (),T.g_order_over,#v[pv 0,#[qE,#v[pv 1]]]]]]
 exists 5
 refine⟨0,0,(sml rfl),λt ht=> ?_⟩;have s1:=qf ht (.tup [V.str n]);exact⟨px,t,n,qs,1,qg,hn,Z.same s1,hq,λH' o rk uk fk don e h hl=>k1 H' o rk uk fk don e ⟨s1.trans h.sm,h.oa,h.dr,h.ks,h.vs,h.du,h.uo,h.df,h.fd,h.fl,h.dn,h.sg,h.gi,h.len,⟨s1.free h.new.1,s1.free h.new.2.1,s1.free h.new.2.2.1,s1.free h.new.2.2.2⟩,h.ne⟩ hl⟩
theorem wZ (T:Tx K mg a):#[K,3,a.WH,a.Ww,["order","name"],(We a.qm a.qC)]:=by
 have qS:=#[ok_yet,T];exists 9,T.g_standing,wP
 erw[h,H0,o,qs,n,m,rk,uk,fk,don,rfl,hq,O,ah,hm,k];have hs:=uF;exists 3,%[#[qD,(2),wP.nd,#[Qi,pv 0,T.qw,T.g_PlainOrder_answer_yet,qS,#v[pv 1]]]|#[qr,#[Q2,#[qp,Qt,#[qJ,qI,pv 2,qi],#[qE,#v[qk,qk]],#[w]],pv 2,#[qE,#v[qk]]]]]
 exists 8,N1,q1
 exists 5
 refine⟨0,o.x,o.dx,0,O.oa.e,Zt o _ (),0,o,m,qs,#[Y,[],don],uk,fk,1,O.oa,hq,O.sg,O.du,O.uo,O.df,O.fd,(),(λp hp=>(O.gi p hp).2),λv H1 fk1 k1 f1 d1 l1 _ y1=>q1 _ _ ?_⟩
 unfold YetIs at y1;rw [dn_yet O.dn hm] at y1;erw[y1,d,hd,ha,_];have U:∀c,c≠o.df->c∉ [o.df]:=λc hc z=>hc (Ae.mp z);have ac:∀c,H0 c≠U_->c∉ [o.df]:=λc hc=>U c (λz=>hc (by rw [z];exact O.new.2.2.2))
 have ad:OrdF a.qm a.qC H0 H1 qs n o rk uk fk1 don:=⟨λb ob e=>k1.kept b ob (O.sm b ob e) (ac b (by rw [e];intro z;cases z)),O.oa.kp k1 (by intro p hp;cases Ae.mp hp;exact .inr (.inl [_:O.df])),k1.kept _ _ O.dr (U _ O.ne.1),O.ks,O.vs.mono k1.tk,k1.kept _ _ O.du (U _ O.ne.2),O.uo,f1,d1,(),O.dn,O.sg,O.gi,O.len,O.new,O.ne⟩
 have sh:∃kk Z,d= .tup (.str kk::Z):=by
  generalize FP qs m=oa at ha;cases oa with
  |none=>erw[ha,kk,Z,h,_];exact[kk:Z:h]
  |some x=>cases x with
   |none=>exact[_:_:ha]
   |some y=>exact[_:_:ha]
 erw[sh,kk,Z,rfl];erw[id hd,qa,wa,rfl,af,w1,r1,rfl,[rfl,ag],h3]
 exists 5
 refine⟨0,qa,_,_,0,1,SqT.of af,Qc (j:=0) rfl,(sml rfl),λt ht=> ?_⟩;have s2:=qf ht (.tup [V.str "value",V.str "lack"])
 exists t,0,.inr (SqT.of qg),1,1,0;have ae:inV (V.str kk) [V.str "value",V.str "lack"]=decide (kk∈(["value","lack"]:oj Str)):=xB kk ["value","lack"];have aa:Kp [o.df] H (upd H1 t (.tup [V.str "value",V.str "lack"])):=k1.trans (Kp.of s2);generalize ak:upd H1 t (.tup [V.str "value",V.str "lack"])=H2 at s2 aa⊢;cases hF:FP qs m with
 |some x=>
  rw [hF] at ha;have hk:kk∈(["value","lack"]:oj Str)/\D.tup (.str kk::Z)=stdD (u_ x):=by
   cases x with
   |none=>cases(show D.tup (.str kk::Z)= .tup [.str "lack"] from ha);exact[():1]
   |some y=>cases(show D.tup (.str kk::Z)= .tup [.str "value",y] from ha);exact[():1]
  refine iteB (ae.trans (uf hk.1)) [0:k _ H2 fk1 aa (ad.same s2) () ?_]
  rw [hF,<-hk.2];exact hd.mono s2.tk
 |none=>
  rw [hF] at ha;erw[ha,k2,r2,e5,c1,c2];cases e5;refine iteN (ae.trans (uh (by simp![uC,uD,uO,V3];exact[c1:c2]))) [(sml rfl):λt3 h3=> ?_]
  have s3:=qf h3 (.tup [V.str "none"]);refine k _ _ fk1 (aa.trans (Kp.of s3)) ((ad.same s2).same s3) () ?_
  rw [hF];exact Is.new (ds:= [.str "none"]) ⟨_,0,yl (),1⟩ h3
theorem ok_stands (T:Tx K mg a)(C:Fx K w mg g a):#[K,16,a.f_stands,a.d_stands,["project","name"],(ZP a.qC)]:=by
 have QL:=#[kH,T,C];have JN:=#[wZ,T];exists 9,T.g_stands,sc_stands,U
 erw[h,px,n,qs,rfl,hn,hP,Z,k];exists 3,%[|#[qr,#[qt,JN,U.mono (),T.g_standing,#v[#[qt,QL,U.mono (),T.g_order_from,#v[pv 0,pv 1]],pv 1]]]]
 exists 5
 refine⟨0,0,px,n,qs,1,hn,hP,Z,λH1 o rk uk fk don _ hO hl=> ?_⟩;exact⟨0,H,o,qs,n,n,rk,uk,fk,don,1,Z,hO,(),XZ hO.dn,λv H2 aa k2 O _ hv=>k v H2 O.sm hv⟩
variable {v:V}{ds:oj D}{n:Nat}{Q:VK}
theorem sl_mid {K:o0}{k:Nat}(Z:Is H (.tup ds) v)(q:∀u H',Same H H'->Is H' (.tup ((ds.drop n).take k)) u->Q u H'):rSlG K v (u_ (n:Int)) (u_ ((n+k:Nat):Int)) H Q:=by
 erw[Z,p,vs,rfl,ep,U];have hl:vs.length=ds.length:=U.length;refine⟨p,vs,1,SqT.of ep,λh=> ?_,λh l O=> ?_⟩
 ·rw [HT.sIx_nat,HT.sIx_nat] at h;have h1:n=0∨ds.length=0:=by omega
  have h2:ds.length<=n+k:=by omega
  refine q _ _ (Same.refl _) ⟨p,vs,1,ep,?_⟩;rcases h1 with rfl|h1
  ·rw [V2,uT ()]
   exact U
  ·have:ds= []:=vg h1;subst this;simp![Rm,Ho];exact U
 ·have e:cutV vs (u_ (n:Int)) (u_ ((n+k:Nat):Int))=(vs.drop n).take k:=by
   unfold cutV;rw [HT.sIx_nat,HT.sIx_nat];by_cases hn:n<=vs.length
   ·rw [Hy hn];by_cases hk:n+k<=vs.length
    ·rw [Hy hk,Ri]
    ·rw [tW (),uT (i:=vs.length-n) (by rw [vI];omega),uT (by rw [vI];omega)]
   ·have m1:min n vs.length=vs.length:=by omega
    have m2:min (n+k) vs.length=vs.length:=by omega
    rw [m1,m2,rF,Ho,vL (),Ho]
  rw [e];exact q _ _ (qf O _) (Is.new ((U.drop n).take k) O)
theorem sl_fr {K:o0}(Z:Is H (.tup ds) v)(q:∀u H',Same H H'->Is H' (.tup (ds.drop n)) u->Q u H'):rSlG K v (u_ (n:Int)) U_ H Q:=by
 erw[Z,p,vs,rfl,ep,U];have hl:vs.length=ds.length:=U.length;refine⟨p,vs,1,SqT.of ep,λh=> ?_,λh l O=> ?_⟩
 ·have h:=h.1;rw [HT.sIx_nat] at h;have h1:n=0∨ds.length=0:=by omega
  refine q _ _ (Same.refl _) ⟨p,vs,1,ep,?_⟩;rcases h1 with rfl|h1
  ·rwa [V2]
  ·have:ds= []:=vg h1;subst this;rwa [Rm]
 ·have e:cutV vs (u_ (n:Int)) U_=vs.drop n:=by
   by_cases hn:n<=vs.length
   ·exact Wa hn
   ·unfold cutV;rw [HT.sIx_none,HT.sIx_nat,tW (),GX,Ru,vL ()]
  rw [e];exact q _ _ (qf O _) (Is.new (U.drop n) O)
inductive sp_unlike (vs:List V) (H:Hp) (Q:VK) (E_:XK):Prop
 |mk (v1 v2:V) (cs lx ly:List D) (_:vs= [v1,v2]) (_:Is H (.tup (cs++lx)) v1) (_:Is H (.tup (cs++ly)) v2) (_:nL (cs++lx)=v_) (_:nL (cs++ly)=v_) (_:dpL (cs++lx)<=50) (_:lx.take 1≠ly.take 1) (_:∀H',Same H H'->Q (.int (cs.length:Int)) H')
theorem ZF:∀{xs:oj D} (n:Nat),nL xs=v_->nL (xs.drop n)=v_
 |xs,0,h=>h
 | [],n+1,h=>rfl
 |x::r,n+1,h=>by
  simp![nL,uw] at h;exact ZF n h.2
theorem wE:∀{xs:oj D} (n:Nat),nL xs=v_->nL (xs.take n)=v_
 |xs,0,h=>rfl
 | [],n+1,h=>rfl
 |x::r,n+1,h=>by
  simp![nL,uw] at h;simp![UJ,nL,h.1,wE n h.2,V7]
theorem dpL_sub {xs ys:oj D}(h:dpL xs<=n)(O:∀x∈ys,x∈xs):dpL ys<=n:=by
 rw [zV] at h⊢;exact λx U=>h x (O x U)
theorem ok_unlike (T:Tx K mg a):#[K,1,a.J5,a.J7,["asks","others"],sp_unlike]:=by
 exists 9,T.g_first_unlike,YF
 erw[h,v1,v2,cs,lx,ly,rfl,h1,h2,n1,n2,hd,Z,k];exists 3,%[#[qD,(2),YF.nd,qi],#[jr,#[qp,#[op_eqN,1,hr.units],#[YR,wC,pv 0,#[YJ,pv 2],#[YJ,#[qV,QY,pv 2,qi]]],#[YR,wC,pv 1,#[YJ,pv 2],#[YJ,#[qV,QY,pv 2,qi]]],qB _],%[|#[ps_aug,2,(2),6,YF.nd,rfl,Gx rfl,qi,ip_add,_]]]|#[qr,pv 2]]
 let J_:Nat->L2.St->Hp->Prop:=λmm σ H'=>∃i:Nat,i<=cs.length/\mm=cs.length-i/\σ= [u_ v1,u_ v2,u_ (.int (i:Int))]/\Same H H'
 exists J_,⟨_,(0),vf _,1,1,Same.refl _⟩;rintro mm σ H1 ⟨i,hi,rfl,rfl,s1⟩
 exists 0,0,0,0,(i:Int),(1),1,1,0;refine sl_mid (n:=i) (k:=1) (h1.mono s1.tk) λu1 H2 s2 i2=> ?_
 exists 0,0,0,0,(i:Int),(1),1,1,0;refine sl_mid (n:=i) (k:=1) (h2.mono (s1.trans s2).tk) λu2 H3 s3 i3=> ?_;have O:=(s1.trans s2).trans s3
 exists _,_,i2.mono s3.tk,i3,wE 1 (ZF i n1),wE 1 (ZF i n2),uM (dpL_sub hd λx hx=>Ts (HQ hx)) (),0
 by_cases c:i<cs.length
 ·have U:((cs++lx).drop i).take 1= [cs[i]]:=by
   rw [FS hi,uY c]
   rfl
  have e2:((cs++ly).drop i).take 1= [cs[i]]:=by
   rw [FS hi,uY c]
   rfl
  have hn:nL [cs[i]]=true:=by rw [<-U];exact wE 1 (ZF i n1)
  refine iteB (by rw [U,e2];exact(eqNL_iff hn).mpr rfl) ?_
  exists λσ' H'=>∃m',m'<cs.length-i/\J_ m' σ' H',λ_ _ h=>h;exact⟨0,(i:Int),(1),1,1,cs.length-(i+1),(),i+1,c,1,1,O⟩
 ·have ei:i=cs.length:=by omega
  have U:((cs++lx).drop i).take 1=lx.take 1:=by rw [ei,Hm]
  have e2:((cs++ly).drop i).take 1=ly.take 1:=by rw [ei,Hm]
  have hn:nL (lx.take 1)=true:=by rw [<-U];exact wE 1 (ZF i n1)
  refine iteN (by
   rw [U,e2];show eqNL (lx.take 1) (ly.take 1)=V9;cases e:eqNL (lx.take 1) (ly.take 1) with
   |false=>rfl
   |true=>exact absurd ((eqNL_iff hn).mp e) Z) ?_
  rw [ei];exact[0:k H3 O]
theorem ZD (p:Gp):asksP p= .tup (QA p):=by
 unfold asksP QA;cases p.run with
 |none=>rfl
 |some q=>rfl
def Pa (qs qs':oj (Str×D))(n:Str)(cs lx ly:oj D):Prop:=∃g,g0D n (qy qs n)=u_ g/\g0D n (qy qs' n)=u_ g/\QA (itP qs 302 g)=cs++lx/\QA (itP qs' 302 g)=cs++ly/\lx.take 1≠ly.take 1
theorem pre_one {α:Type}:∀{cs ds lx ly O U:oj α},cs++lx=ds++O->cs++ly=ds++U->lx.take 1≠ly.take 1->O.take 1≠U.take 1->cs=ds/\lx=O/\ly=U
 | [],[],_,_,_,_,h1,h2,_,_=>[1:h1:h2]
 | [],d::ds,lx,ly,O,U,h1,h2,n1,_=>by
  have h1:lx=d::(ds++O):=h1;have h2:ly=d::(ds++U):=h2;rw [h1,h2] at n1;exact absurd rfl n1
 |c::cs,[],lx,ly,O,U,h1,h2,_,n2=>by
  have h1:c::(cs++lx)=O:=h1;have h2:c::(cs++ly)=U:=h2;rw [<-h1,<-h2] at n2;exact absurd rfl n2
 |c::cs,d::ds,_,_,_,_,h1,h2,n1,n2=>by
  injection h1 with h3 h4
  injection h2 with h5 h6
  erw[pre_one h4 h6 n1 n2,Z,e2,e3];exact⟨by rw [h3,Z],e2,e3⟩
variable {qs':oj (Str×D)}
theorem Pa.one {n:Str}{cs lx ly O U:oj D}(h:Pa qs qs' n cs lx ly)(k:Pa qs qs' n ds O U):cs=ds/\lx=O/\ly=U:=by
 erw[h,g,h1,h2,h3,h4,h5];erw[k,g',k1,k2,k3,Z,k5];rw [h1] at k1;cases k1;rw [h3] at k3;rw [h4] at Z;exact pre_one k3 Z h5 k5
inductive Rsn (qs qs':List (Str×D)):Str->List Str->List Nat->D->Prop
 |src {n:Str}:qy qs n≠qy qs' n->Rsn qs qs' n [] [] (.tup [.str "source"])
 |ask {n kd z:Str}{cs lx ly r:List D}{a:D}:qy qs n=qy qs' n->Pa qs qs' n cs lx ly->lx++ly= .tup [.tup [.str kd,.str z],a]::r->isHN kd=v_->Rsn qs qs' n [] [] (.tup [.str "ask",.tup [.str kd,.str z]])
 |more {n kd m:Str}{cs lx ly r:List D}{a e:D}{ws:List Str}{ps:List Nat}:qy qs n=qy qs' n->Pa qs qs' n cs lx ly->lx++ly= .tup [.tup [.str kd,.str m],a]::r->isHN kd=V9->Rsn qs qs' m ws ps e->Rsn qs qs' n (m::ws) (cs.length::ps) e
variable {ws:oj Str}{e:D}
theorem Rsn.one {n:Str}{ps:oj Nat}(h:Rsn qs qs' n ws ps e):∀{O:oj Str}{U:oj Nat}{e':D},Rsn qs qs' n O U e'->ws=O/\ps=U/\e=e':=by
 induction h with
 |src h1=>
  intro O U e' k;cases k with
  |src _=>exact[1:1:1]
  |ask k1 _ _ _=>exact absurd k1 h1
  |more k1 _ _ _ _=>exact absurd k1 h1
 |ask h1 h2 h3 h4=>
  intro O U e' k;cases k with
  |src k1=>exact absurd h1 k1
  |ask k1 k2 k3 Z=>
   erw[h2.one k2,_,e1,e2];rw [e1,e2,k3] at h3;cases h3;exact[1:1:1]
  |more k1 k2 k3 Z _=>
   erw[h2.one k2,_,e1,e2];rw [e1,e2,k3] at h3;cases h3;rw [h4] at Z;cases Z
 |more h1 h2 h3 h4 _ ih=>
  intro O U e' k;cases k with
  |src k1=>exact absurd h1 k1
  |ask k1 k2 k3 Z=>
   erw[h2.one k2,_,e1,e2];rw [e1,e2,k3] at h3;cases h3;rw [h4] at Z;cases Z
  |more k1 k2 k3 Z k5=>
   erw[h2.one k2,e0,e1,e2];rw [e1,e2,k3] at h3;cases h3;erw[ih k5,f1,f2,f3];exact⟨by rw [f1],by rw [e0,f2],f3⟩
variable {m:Str}
theorem F_val (U:Qn qs){v:D}(h:FP qs m=u_ (u_ v)):isT v=true:=by
 erw[(Sy.Ko (QI qs)).mp h,k,h];cases O:(SyP qs).g0 m with
 |none=>
  rw [Sy.zr O] at h;have h:onceD (qy qs m)=u_ v:=uK h;by_cases hm:m∈qs.map (·.1)
  ·erw[zX U hm,hn,kk,e,hd,h1,h2];have O:g0D m (qy qs m)=none:=O;rw [hd] at O h;unfold g0D at O;simp only at O;cases(show u_ e=u_ v from h)
   by_cases c:kk="leaf"
   ·exact(h2 (by rw [c];decide+kernel)).2
   ·rw [A2 c] at O;split at O<;>cases O
  ·rw [yE hm] at h;cases h
 |some g=>
  cases k with
  |zero=>rw [Sy.wW O] at h;cases h
  |succ k=>
   rw [Sy.WZ O] at h;have Z:=it_gi U (Fh_ok U k) 302 (gi_g0 U O).1 (ga_g0 O).1;cases hs:(SyP qs).said (Sy.it (SyP qs) (Sy.Fh (SyP qs) k) (SyP qs).M g) with
   |none=>rw [hs] at h;cases h
   |some u=>
    rw [hs] at h;cases h;exact said_ok Z.1 hs
theorem getD_ne (Z:Qn qs)(U:Qn qs'){a b:om D}(ha:FP qs m=u_ a)(hb:FP qs' m=u_ b)(O:a≠b):a.getD .non≠b.getD .non:=by
 have nt:isT .non=v_->False:=λh=>absurd h ()
 cases a with
 |none=>
  cases b with
  |none=>exact absurd rfl O
  |some v=>exact λz=>nt (by rw [show D.non=v from z];exact F_val U hb)
 |some v=>
  cases b with
  |none=>exact λz=>nt (by rw [<-show v=D.non from z];exact F_val Z ha)
  |some u=>exact λz=>O (by rw [show v=u from z])
variable {c:Gp}
theorem bh_ne (hq:Qn qs)(ae:Qn qs'){ly lz:oj D}(hg:GI c)(he:c.en=U_)(b1:Bhd qs c ly)(b2:Bhd qs' c lz)(h:(QU c=U_/\ownP qs c≠ownP qs' c)∨∃m,QU c=u_ m/\FP qs m≠FP qs' m):
  ∃kd z a r,yP c= .tup [.str kd,.str z]/\ly++lz= .tup [.tup [.str kd,.str z],a]::r/\ly.take 1≠lz.take 1/\(isHN kd=v_∨isHN kd=V9/\QU c=u_ z/\FP qs z≠FP qs' z):=by
 rcases h with⟨Z,U⟩|⟨m,Z,U⟩
 ·erw[JH (qs:=qs) hg he Z,rs,r,kd,z,hr,aa,hk,_,e1];erw[JH (qs:=qs') hg he Z,af,r',ag,z',ad,ac,_,_,e2];have hp:yP c= .tup [.str kd,.str z]:=by
   unfold yP;rw [hr];show X4 r.th=_;rw [aa]
   rfl
  rw [hr] at ad;cases ad;rw [aa] at ac;cases ac;erw[b1.1 kd z Z hp,r1,q1];erw[b2.1 kd z Z hp,r2,q2];rw [hp] at q1 q2;refine⟨kd,z,JV qs kd z,r1++lz,hp,by rw [q1];rfl,λO=> ?_,.inl hk⟩
  rw [q1,q2] at O;have:JV qs kd z=JV qs' kd z:=by
   have O: [D.tup [.tup [.str kd,.str z],JV qs kd z]]= [D.tup [.tup [.str kd,.str z],JV qs' kd z]]:=O;injection O with O _
   injection O with O
   injection O with _ O
   injection O with O _
  exact U (by rw [e1,e2,this])
 ·erw[jj hg he Z,ah,aa];have hp:∃kd,yP c= .tup [.str kd,.str m]/\isHN kd=false:=by
   rcases aa with⟨h1,h2⟩|⟨rs,r,h1,h2⟩
   ·exact⟨"rule",by unfold yP;rw [h1,h2],()⟩
   ·refine["thing":?_:()]
    unfold yP;rw [h1];show X4 r.th=_;rw [h2]
    rfl
  erw[hp,kd,hp,hk];have w1:=b1.2 m Z;have w2:=b2.2 m Z;rw [hp] at w1 w2;cases ha:FP qs m with
  |some a=>
   erw[w1.1 a ha,r1,q1];refine⟨kd,m,a.getD .non,r1++lz,hp,by rw [q1];rfl,λO=> ?_,.inr [hk:Z:U]⟩
   cases hb:FP qs' m with
   |some b=>
    erw[w2.1 b hb,r2,q2];rw [q1,q2] at O;have O: [D.tup [.tup [.str kd,.str m],a.getD .non]]= [D.tup [.tup [.str kd,.str m],b.getD .non]]:=O;injection O with O _
    injection O with O
    injection O with _ O
    injection O with O _
    exact getD_ne hq ae ha hb (λz=>U (by rw [ha,hb,z])) O
   |none=>
    rw [q1,w2.2 hb] at O;cases O
  |none=>
   cases hb:FP qs' m with
   |none=>exact absurd (ha.trans hb.symm) U
   |some b=>
    erw[w2.1 b hb,r2,q2];refine⟨kd,m,b.getD .non,r2,hp,by rw [w1.2 ha,q2];rfl,λO=> ?_,.inr [hk:Z:U]⟩
    rw [q2,w1.2 ha] at O;cases O
def HdA (l:oj D)(kd z:Str):Prop:=l= []∨∃a r,l= .tup [.tup [.str kd,.str z],a]::r
variable {z:Str}
theorem bh_hd {l:oj D}{kd:Str}(b:Bhd qs c l)(O:yP c= .tup [.str kd,.str z]):HdA l kd z:=by
 cases U:QU c with
 |none=>
  erw[b.1 kd z U O,r,q];rw [O] at q;exact .inr [_:r:q]
 |some m=>
  cases Z:FP qs m with
  |none=>exact .inl ((b.2 m U).2 Z)
  |some a=>
   erw[(b.2 m U).1 a Z,r,q];rw [O] at q;exact .inr [_:r:q]
theorem turn (hq:Qn qs)(Z:Qn qs'){n:Str}(hs:qy qs n=qy qs' n)(aa:FP qs n≠FP qs' n):
  ∃g cs lx ly kd z a r,g0D n (qy qs n)=u_ g/\g0D n (qy qs' n)=u_ g/\Pa qs qs' n cs lx ly/\QA (itP qs 302 g)=cs++lx/\QA (itP qs' 302 g)=cs++ly/\lx.take 1≠ly.take 1/\lx++ly= .tup [.tup [.str kd,.str z],a]::r/\(HdA lx kd z/\HdA ly kd z)/\
   (isHN kd=v_∨isHN kd=V9/\FP qs z≠FP qs' z/\(∀k b,Sy.Fh (SyP qs) k n=u_ b->∃j d,j<k/\Sy.Fh (SyP qs) j z=u_ d)/\(∀k b,Sy.Fh (SyP qs') k n=u_ b->∃j d,j<k/\Sy.Fh (SyP qs') j z=u_ d)/\
    (∃k,(itP qs k g).en=U_/\QU (itP qs k g)=u_ z)/\∃k,(itP qs' k g).en=U_/\QU (itP qs' k g)=u_ z):=by
 erw[unlike_runs hs aa,g,h1,h2,h3];erw[parting hq Z h1 h2 h3,c,ly,lz,g1,he,e1,e2,b1,b2,[k1,O],[k2,U],h4];erw[bh_ne hq Z g1 he b1 b2 h4,kd,z,a,r,hp,hl,ht,hz];exists g,QA c,ly,lz,kd,z,a,r,h1,h2,⟨g,h1,h2,e1,e2,ht⟩,e1,e2,ht,hl,[bh_hd b1 hp:bh_hd b2 hp];rcases hz with hz|⟨hz,hw,hn⟩
 ·exact .inl hz
 ·exact .inr ⟨hz,hn,λk b hb=>sooner h1 [k1:O] he hw hb,λk b hb=>sooner h2 [k2:U] he hw hb,⟨k1,by rwa [O],by rwa [O]⟩,⟨k2,by rwa [U],by rwa [U]⟩⟩
theorem wv:∀{l m:oj Str},l.Nodup->(∀x∈l,x∈m)->l.length<=m.length
 | [],m,_,_=>vf _
 |x::r,m,hn,hs=>by
  rw [Ue] at hn;have O:=hs x ug;have h:=wv (l:=r) (m:=m.erase x) hn.2 (λy U=>(List.mem_erase_of_ne (λz=>hn.1 (by rwa [<-z]))).mpr (hs y (ud _ U)))
  rw [List.length_erase_of_mem O] at h;have:0<m.length:=List.length_pos_of_mem O;rw [um];omega
def Sd (Y:Sy)(pre:oj Str)(cur:Str):Prop:=(∃k a,Sy.Fh Y k cur=u_ a)/\∀x∈pre,∀k a,Sy.Fh Y k x=u_ a->∃j b,j<k/\Sy.Fh Y j cur=u_ b
variable {pre:oj Str}{cur:Str}
theorem Sd.new {Y:Sy}(h:Sd Y pre cur):cur∉pre:=λhm=>by
 have O:∀k a,Sy.Fh Y k cur≠u_ a:=by
  intro k
  induction k using R9 with
  |_ k U=>
   intro a e;erw[h.2 cur hm k a e,j,b,Z,e1];exact U j Z b e1
 erw[h.1,k,a,e];exact O k a e
theorem Sd.more {Y:Sy}(h:Sd Y pre cur)(U:∀k b,Sy.Fh Y k cur=u_ b->∃j d,j<k/\Sy.Fh Y j z=u_ d):Sd Y (pre++ [cur]) z:=by
 refine[?_:λx O k a e=> ?_]
 ·erw[h.1,k,a,e];erw[U k a e,j,d,_,Z];exact[j:d:Z]
 ·rcases Af.mp O with O|O
  ·erw[h.2 x O k a e,j,b,hj,Z];erw[U j b Z,i,d,hi,e2];exact⟨i,d,(),e2⟩
  ·cases Ae.mp O;exact U k a e
theorem sd_begin {n:Str}(h:FP qs n≠FP qs' n):Sd (SyP qs) [] n∨Sd (SyP qs') [] n:=by
 cases h1:FP qs n with
 |some a=>
  erw[(Sy.Ko (QI qs)).mp h1,k,e];exact .inl ⟨[k:a:e],λx O=>by cases O⟩
 |none=>
  cases h2:FP qs' n with
  |some a=>
   erw[(Sy.Ko (QI qs')).mp h2,k,e];exact .inr ⟨[k:a:e],λx O=>by cases O⟩
  |none=>exact absurd (h1.trans h2.symm) h
structure Wy (qs qs':oj (Str×D))(n:Str)(don don':oj (Str×Gp))(pre:oj Str)(cur:Str)(pp:oj Nat):Prop where
 ne:FP qs cur≠FP qs' cur
 sd:Sd (SyP qs) pre cur∨Sd (SyP qs') pre cur
 nd:pre.Nodup
 sub:∀x∈pre,x∈qs.map (·.1)
 at1:g0D cur (qy qs cur)=U_∨cur∈don.map (·.1)
 at2:g0D cur (qy qs' cur)=U_∨cur∈don'.map (·.1)
 hd:(pre++ [cur]).head? =u_ n
 rs:∀ws ps e,Rsn qs qs' cur ws ps e->Rsn qs qs' n ((pre++ [cur]).tail++ws) (pp++ps) e
variable {don':oj (Str×Gp)}
theorem Wy.begin {n:Str}(h:FP qs n≠FP qs' n)(h1:g0D n (qy qs n)=U_∨n∈don.map (·.1))(h2:g0D n (qy qs' n)=U_∨n∈don'.map (·.1)):Wy qs qs' n don don' [] n []:=
 ⟨h,sd_begin h,vQ,(λx O=>by cases O),h1,h2,1,λws ps e r=>r⟩
variable {pp:oj Nat}
theorem Wy.new {n:Str}(h:Wy qs qs' n don don' pre cur pp):cur∉pre:=h.sd.elim Sd.new Sd.new
theorem Wy.few (O:Qn qs){n:Str}(h:Wy qs qs' n don don' pre cur pp):pre.length<=60:=by
 have:=wv h.nd h.sub;rw [uc] at this;exact uM this O.2.2
theorem Wy.more {qs qs':oj (Str×D)}(hq:Qn qs){n n1 n2:Str}{don don':oj (Str×Gp)}{pre:oj Str}{cur kd z:Str}{pp:oj Nat}{cs lx ly r:oj D}{a:D}{g:Gp}(h:Wy qs qs' n don don' pre cur pp)(d1:Dn qs n1 don)(d2:Dn qs' n2 don')(hs:qy qs cur=qy qs' cur)(hg:g0D cur (qy qs cur)=u_ g)(af:g0D cur (qy qs' cur)=u_ g)(hP:Pa qs qs' cur cs lx ly)(hl:lx++ly= .tup [.tup [.str kd,.str z],a]::r)(hk:isHN kd=V9)(ag:FP qs z≠FP qs' z)
  (s1:∀k b,Sy.Fh (SyP qs) k cur=u_ b->∃j d,j<k/\Sy.Fh (SyP qs) j z=u_ d) (s2:∀k b,Sy.Fh (SyP qs') k cur=u_ b->∃j d,j<k/\Sy.Fh (SyP qs') j z=u_ d) (w1:∃k,(itP qs k g).en=U_/\QU (itP qs k g)=u_ z) (w2:∃k,(itP qs' k g).en=U_/\QU (itP qs' k g)=u_ z):
  Wy qs qs' n don don' (pre++ [cur]) z (pp++ [cs.length])/\pre.length+1<=60:=by
 have hc:cur∈qs.map (·.1):=(QI qs).gn cur g hg;have aa:(pre++ [cur]).Nodup:=(T5 (l₁:= [cur]) (l₂:=pre)).nodup_iff.mp (List.nodup_cons.mpr [h.new:h.nd]);have Z:∀x∈pre++ [cur],x∈qs.map (·.1):=λx hx=>by
  rcases Af.mp hx with hx|hx
  ·exact h.sub x hx
  ·cases Ae.mp hx;exact hc
 have ac:∀{U:oj (Str×D)}{m:Str}{dd:oj (Str×Gp)},Dn U m dd->(g0D cur (qy U cur)=U_∨cur∈dd.map (·.1))->g0D cur (qy U cur)=u_ g->(∃k,(itP U k g).en=U_/\QU (itP U k g)=u_ z)->g0D z (qy U z)=U_∨z∈dd.map (·.1):=by
  intro U m dd hd O ad hw;erw[hw,k,e1,e2];rcases O with O|O
  ·rw [ad] at O;cases O
  ·erw[Ag.mp O,p,hp,ep];erw[id hd,j,hj];cases ae:g0D m (qy U m) with
   |none=>rw [dn_none ae hd] at hp;cases hp
   |some ah=>exact Sy.end_clo (Y:=SyP U) (QI U) ae hj hp (s:=g) (by rwa [ep]) (i:=k) (by show(itP U k g).en.isSome=V9;rw [e1];rfl) e2
 refine[⟨ag,?_,aa,Z,ac d1 h.at1 hg w1,ac d2 h.at2 af w2,?_,λws ps e hr=> ?_⟩:?_]
 ·rcases h.sd with s|s
  ·exact .inl (s.more s1)
  ·exact .inr (s.more s2)
 ·have:=h.hd;cases hp:pre with
  |nil=>rwa [hp] at this
  |cons x l=>rwa [hp] at this
 ·have:=h.rs (z::ws) (cs.length::ps) e (.more hs hP hl hk hr);have e1:(pre++ [cur]++ [z]).tail++ws=(pre++ [cur]).tail++(z::ws):=by
   cases hp:pre with
   |nil=>rfl
   |cons x l=>simp
  rw [e1,vv];exact this
 ·have:=wv aa Z;rw [uc,uB] at this;exact uM this hq.2.2
mutual
theorem lw_k:∀{d:D},lw d=v_->kD d=v_
 | .str z,_=>by simp [kD]
 | .tup xs,h=>by
  have:=lwL_k (xs:=xs) (by simpa [lw] using h)
  simpa [kD] using this
 | .non,h=>by simp [lw] at h
 | .int _,h=>by simp [lw] at h
 | .bl _,h=>by simp [lw] at h
 | .lst,h=>by simp [lw] at h
 | .dct,h=>by simp [lw] at h
theorem lwL_k:∀{xs:oj D},lwL xs=v_->kL xs=v_
 | [],_=>by simp [kL]
 |x::r,h=>by
  have h':lw x=v_/\lwL r=true:=by simpa [lwL] using h
  simp [kL,lw_k h'.1,lwL_k h'.2]
end
theorem dat_non:∀{qs:oj (Str×D)}{z:Str},z∉qs.map (·.1)->qy qs z= .non
 | [],z,_=>rfl
 |p::r,z,h=>by
  have h1:¬p.1=z:=λe=>h (by rw [<-e];exact ug ..)
  have h2:=dat_non (qs:=r) (z:=z) λhm=>h (ud _ hm);unfold qy at h2⊢;rw [v7,uh h1];exact h2
theorem dat_k (h:PrOk qs)(z:Str):kD (qy qs z)=v_/\dp (qy qs z)<=13:=by
 by_cases c:z∈qs.map (·.1)
 ·have O:=h.2 _ (dat_mem h.1.2 c);exact[lw_k O.2.2.1:src_dp O]
 ·rw [dat_non c];exact⟨1,by simp [dp]⟩
theorem OrdF.get {n:Str}{o:Oc}{g:Gp}(h:OrdF CO CP H0 H qs n o rk uk fk don)(hg:g0D m (qy qs m)=u_ g)(hm:g0D m (qy qs m)=U_∨m∈don.map (·.1)):∃v,valV rk (Vc m)=u_ v/\Is H (.tup [.tup (QA (itP qs 302 g)),endP (itP qs 302 g)]) v/\GI (itP qs 302 g)/\(itP qs 302 g).en.isSome=true:=by
 rcases hm with hm|hm
 ·rw [hg] at hm;cases hm
 erw[Ag.mp hm,[U,p],O,rfl];erw[dn_mem h.dn O,s,e1,e2];have e1:g0D U (qy qs U)=u_ s:=e1;rw [hg] at e1;cases e1;have e2:p=itP qs 302 g:=e2;erw[rk_vs h.ks,vs,f1,f2,f3];have hk:vs.map (·.1)=(don.map λq=>(q.1,Y7 q.2)).map (·.1):=by rw [f2,uL];rfl
 have hi:L2.IsL H ((don.map λq=>(q.1,Y7 q.2)).map (·.2)) (vs.map (·.2)):=by rw [f3,uL];exact h.vs
 have aa:U∈(don.map λq=>(q.1,Y7 q.2)).map (·.1):=by rwa [uL]
 erw[look2 hk hi aa,l1,l2];have hd:qy (don.map λq=>(q.1,Y7 q.2)) U=Y7 p:=dat_of (by rw [uL];exact dn_nd h.dn) (Ag.mpr [(U,p):O:1])
 rw [hd,KO,ZD,e2] at l2;have Z:=h.gi _ O;rw [show((U,p):Str×Gp).2=itP qs 302 g from e2] at Z
 exact⟨_,by rwa [f1],l2,Z⟩
theorem ZE {p:Gp}(h:GI p):(QA p).length<=400:=by
 have h1:=h.ra.2.2;unfold QA;rw [uB];cases O:p.run with
 |none=>show _+0<=400;omega
 |some q=>
  erw[q,rs,r];have h2:=(h.run rs r O).2.1;have h3:=h2.gs.2.2;have h4:=h2.n;show _+r.gs.length<=400;omega
theorem KH {p:Gp}(h:GI p)(Z:p.en.isSome=v_):nL (QA p)=v_/\dpL (QA p)<=30:=by
 erw[gi_nd h Z,U,O,_];rw [ZD] at U O;exists U;have O:1+dpL (QA p)<=31:=O;omega
variable {l:oj Str}
theorem hd_tl {n:Str}(h:l.head? =u_ n):n::l.tail=l:=by
 cases l with
 |nil=>cases h
 |cons x r=>cases h;rfl
theorem ints_is {H:Hp}:∀ps:oj Nat,L2.IsL H (ps.map λp:Nat=>D.int (p:Int)) (ps.map λp:Nat=>V.int (p:Int))
 | []=>rfl
 |p::r=>⟨_,0,1,ints_is r⟩
theorem ZC {H:Hp}:∀{zs:oj Str},(∀z∈zs,z.length<=100)->L2.IsL H (zs.map D.str) (zs.map V.str)
 | [],_=>rfl
 |z::r,h=>⟨_,0,yl (by have:=h z ug;omega),ZC λy O=>h y (ud _ O)⟩
def rsnD (n:Str)(ws:oj Str)(ps:oj Nat)(e:D):D:= .tup [.tup ((n::ws).map D.str),.tup (ps.map λp:Nat=>D.int (p:Int)),e]
inductive XJ (CP:Addr) (vs:List V) (H:Hp) (Q:VK) (E_:XK):Prop
 |mk (px px':Addr) (n:Str) (qs qs':List (Str×D)) (_:vs= [.ref px,.ref px',.str n]) (_:nm n=v_) (_:Q5 CP H px qs) (_:Qn qs) (_:Q5 CP H px' qs') (_:Qn qs') (_:(FP qs n=FP qs' n->∀H',Same H H'->Q .non H')) (_:(FP qs n≠FP qs' n->∀v H' ws ps e,Same H H'->Rsn qs qs' n ws ps e->ws.length<=60->ps.length<=60->Is H' (rsnD n ws ps e) v->Q v H'))
theorem std_one {a b:om (om D)}(h:stdD a=stdD b):a=b:=by
 cases a with
 |none=>
  cases b with
  |none=>rfl
  |some b=>cases b with
   |none=>exact absurd h (by unfold stdD;intro z;injection z with z;injection z with z _;injection z with z;revert z;decide+kernel)
   |some v=>exact absurd h (by unfold stdD;intro z;injection z with z;injection z with z _;injection z with z;revert z;decide+kernel)
 |some a=>
  cases a with
  |none=>
   cases b with
   |none=>exact absurd h (by unfold stdD;intro z;injection z with z;injection z with z _;injection z with z;revert z;decide+kernel)
   |some b=>cases b with
    |none=>rfl
    |some v=>exact absurd h (by unfold stdD;intro z;injection z with z;injection z with z _;injection z with z;revert z;decide+kernel)
  |some u=>
   cases b with
   |none=>exact absurd h (by unfold stdD;intro z;injection z with z;injection z with z _;injection z with z;revert z;decide+kernel)
   |some b=>cases b with
    |none=>exact absurd h (by unfold stdD;intro z;injection z with z;injection z with z _;injection z with z;revert z;decide+kernel)
    |some v=>
     unfold stdD at h;injection h with h
     injection h with _ h
     injection h with h _
     rw [h]
def stdL (o:om (om D)):oj D:=match stdD o with
 | .tup l=>l
 |_=> []
theorem xY (o:om (om D)):stdD o= .tup (stdL o):=by
 cases o with
 |none=>rfl
 |some x=>cases x with
  |none=>rfl
  |some v=>rfl
theorem std_nd (U:Qn qs)(n:Str):nL (stdL (FP qs n))=v_/\dpL (stdL (FP qs n))<=20:=by
 cases h:FP qs n with
 |none=>exact⟨1,by show dpL [.str "none"]<=20;simp [dpL,dp]⟩
 |some x=>cases x with
  |none=>exact⟨1,by show dpL [.str "lack"]<=20;simp [dpL,dp]⟩
  |some v=>
   have O:=F_val U h;have h2:=J0 O;refine[?_:?_]
   ·show nL [.str "value",v]=v_;simp![nL,nD,WE (yt O),vU]
   ·show dpL [.str "value",v]<=20;simp![dpL,dp];omega
theorem ok_reason (T:Tx K mg a)(C:Fx K w mg g a):#[K,16,a.f_reason,a.d_reason,["project","other","name"],(XJ a.qC)]:=by
 have QL:=#[kH,T,C];have JN:=#[wZ,T];have qR:=#[jG,T];have Wm:=#[ok_unlike,T];exists 9,T.g_reason,yG
 erw[h,px,px',n,qs,qs',rfl,hn,hP,hq,aO,al,kE,kN];have hs:=uF;exists 3,%[#[qD,(3),yG.nd,#[qt,QL,hr.mono (),T.g_order_from,#v[pv 0,pv 2]]],#[qD,(4),yG.nd,#[qt,QL,hr.mono (),T.g_order_from,#v[pv 1,pv 2]]],#[qL,#[qp,#[op_eqN,1,hr.units],#[qt,JN,hr.mono (),T.g_standing,#v[pv 3,pv 2]],#[qt,JN,hr.mono (),T.g_standing,#v[pv 4,pv 2]],qB _],%[|#[qr,qW]],qx],#[qD,(5),yG.nd,#[Qw,#v[pv 2]]],#[qD,(6),yG.nd,#[Qw,qc]],#[jr,#[qp,#[op_eqA,1,hr.units],#[Qi,pv 0,T.QZ,T.g_Project_source_of,qR,#v[#[qJ,QO,pv 5,#[kT,6,Xp,qi]]]],#[Qi,pv 1,T.QZ,T.g_Project_source_of,qR,#v[#[qJ,QO,pv 5,#[kT,6,Xp,qi]]]],qB _],%[#[qD,(7),yG.nd,#[qJ,qI,#[Qz,#[qO,5,pv 3,rfl],#[qJ,QO,pv 5,#[kT,6,Xp,qi]]],qi]],#[qD,(8),yG.nd,#[qJ,qI,#[Qz,#[qO,5,pv 4,rfl],#[qJ,QO,pv 5,#[kT,6,Xp,qi]]],qi]],#[qD,(9),yG.nd,#[qt,Wm,hr.mono (),T.g_first_unlike,#v[pv 7,pv 8]]],#[qD,(10),yG.nd,#[qJ,J3,#[qJ,qI,#[qV,Z0,#[YR,wC,pv 7,#[YJ,pv 9],zw],#[YR,wC,pv 8,#[YJ,pv 9],zw]],qi],qi]],#[qL,#[qp,Qt,#[qJ,qI,pv 10,qi],#[qE,#v[qk,qk]],#[w]],%[|#[qr,#[qE,#v[#[qK,qG,T.Qk,vc,#v[pv 5]],#[qK,qG,T.Qk,vc,#v[pv 6]],#[qE,#v[qk,pv 10]]]]]],qx],#[qY,#[YL,uN,vd,ve,yb,pv 6,#v[pv 9]]]|#[qY,#[YL,uN,vd,ve,yb,pv 5,#v[#[qJ,qI,pv 10,qi]]]]]]|#[qr,#[qE,#v[#[qK,qG,T.Qk,vc,#v[pv 5]],#[qK,qG,T.Qk,vc,#v[pv 6]],#[qE,#v[qk]]]]]]
 exists 8,N1,q1
 exists 5
 refine⟨0,0,px,n,qs,1,hn,hP,hq,λH1 o1 aP aQ fk1 ae _ aa bY=>q1 _ _ ?_⟩;exists 8,N2,q2
 exists 5
 refine⟨0,0,px',n,qs',1,hn,aO.same aa.sm,al,λH2 o2 aF aG aH ac _ O bZ=>q2 _ _ ?_⟩;exists 8,N3,q3;have ay:=aa.same O.sm
 exists 5
 refine⟨0,0,H,o1,qs,n,n,aP,aQ,fk1,ae,1,hq,ay,(),XZ aa.dn,λv3 H3 bp k3 aR l3 i3=> ?_⟩
 have Z:=aa.df;have d1:o1.df≠o2.dr:=λz=>by rw [z,O.new.2.1] at Z;cases Z
 have d2:o1.df≠o2.du:=λz=>by rw [z,O.new.2.2.1] at Z;cases Z
 have d3:o1.df≠o2.df:=λz=>by rw [z,O.new.2.2.2] at Z;cases Z
 have hf:=aa.sm;have aS:OrdF a.qm a.qC H H2 qs' n o2 aF aG aH ac:=⟨hf.trans O.sm,O.oa,O.dr,O.ks,O.vs,O.du,O.uo,O.df,O.fd,O.fl,O.dn,O.sg,O.gi,O.len,⟨hf.free O.new.1,hf.free O.new.2.1,hf.free O.new.2.2.1,hf.free O.new.2.2.2⟩,O.ne⟩;have aA:OrdF a.qm a.qC H H3 qs' n o2 aF aG aH ac:=aS.away k3 ay.df [d1:d2:d3] aR.sm
 exists 5
 refine⟨0,0,H,o2,qs',n,n,aF,aG,aH,ac,1,al,aA,(),XZ O.dn,λv4 H4 b9 k4 aI l4 i4=> ?_⟩
 have aB:=aa.dr;have aC:=aa.du;have aT:OrdF a.qm a.qC H H4 qs n o1 aP aQ bp ae:=aR.away k4 aA.df ⟨λz=>(by rw [<-z,O.new.2.2.2] at aB;cases aB),λz=>(by rw [<-z,O.new.2.2.2] at aC;cases aC),d3.symm⟩ aI.sm
 erw[std_nd hq n,c1,c2];erw[std_nd al n,c3,c4];rw [xY] at i3 i4
 exists _,_,i3.mono k4.tk,i4,c1,c3,(),0
 have s4:Same H H4:=aI.sm;by_cases am:FP qs n=FP qs' n
 ·refine iteB (by rw [am];exact(eqNL_iff c3).mpr rfl) ?_
  exact kE am H4 s4
 have cne:eqNL (stdL (FP qs n)) (stdL (FP qs' n))=false:=by
  cases e:eqNL (stdL (FP qs n)) (stdL (FP qs' n)) with
  |false=>rfl
  |true=>exact absurd (std_one (by rw [xY,xY,(eqNL_iff c1).mp e])) am
 refine iteN cne (q3 _ _ ?_);exists 8,N4,q4
 exists 5
 refine[0:(sml rfl):λl5 h5=>q4 _ _ ?_];exists 8,N5,q5;have s5:=qf h5 (.lst [V.str n])
 exists 5
 refine[(sml rfl):λl6 h6=>q5 _ _ ?_];exists 8,N6,q6;have s6:=qf h6 (.lst ([]:oj V));have aw:l5≠l6:=ql qg h6;have aU:upd (upd H4 l5 (.lst [V.str n])) l6 (.lst []) l5=u_ (.lst (([]++ [n]:oj Str).map V.str)):=by rw [qh aw];exact qg
 have aV:upd (upd H4 l5 (.lst [V.str n])) l6 (.lst []) l6=u_ (.lst (([]:oj Nat).map λp:Nat=>V.int (p:Int))):=qg;have sB:=s5.trans s6;have bq:H4 l5=none:=h5;have bt:H4 l6=none:=by rwa [qh aw.symm] at h6
 generalize upd (upd H4 l5 (.lst [V.str n])) l6 (.lst [])=HB at sB aU aV⊢;have bu:Wy qs qs' n ae ac [] n []:=Wy.begin am (XZ aa.dn) (XZ O.dn)
 let J_:Nat->L2.St->Hp->Prop:=λmm σ H'=>E7 λ(pre:oj Str) (cur:Str) (pp:oj Nat) (u7:om V) (u8:om V) (u9:om V) (aW:om V)=>A8 (mm=60-pre.length) (σ= [u_ (.ref px),u_ (.ref px'),u_ (.str n),u_ (.ref o1.x),u_ (.ref o2.x),u_ (.ref l5),u_ (.ref l6),u7,u8,u9,aW]) (Wy qs qs' n ae ac pre cur pp) (H' l5=u_ (.lst ((pre++ [cur]).map V.str))) (H' l6=u_ (.lst (pp.map λp:Nat=>V.int (p:Int)))) (pp.length=pre.length) (Kp [l5,l6] H4 H') ((∀x∈pre++ [cur],x.length<=100))
 have ca:=w9 hn
 exists 5
 refine⟨J_,⟨_,[],n,[],U_,U_,U_,U_,1,1,bu,aU,aV,1,Kp.of sB,λx hx=>(by cases Ae.mp hx;omega)⟩,?_⟩
 rintro mm σ H7 ⟨pre,cur,pp,u7,u8,u9,aW,rfl,rfl,hW,ax,aJ,aX,hK,aD⟩;have af:Same H4 H7:=λb ob e=>hK.kept b ob e (λz=>by
  simp![uC,uD,uO] at z;rcases z with rfl|rfl
  ·rw [bq] at e;cases e
  ·rw [bt] at e;cases e)
 have s7:=s4.trans af;have aY:=hP.same s7;have aE:=aO.same s7;erw[id aY,bv,cb,cc,cd,hx,_];erw[id aE,aZ,bS,bT,bU,bw,_];have ag:H7 l5=u_ (.lst (pre.map V.str++ [V.str cur])):=by rw [ax,uu];rfl
 have ce:=hW.few hq
 exists 5
 refine⟨0,px,bv,0,hx,yq,0,0,l5,_,_,0,1,SqL.of ag,yY,px,cur,qs,1,aY,λw1 g1 g2=> ?_⟩;have bx:Is H7 (qy qs cur) w1:=by
  by_cases c:cur∈qs.map (·.1)
  ·exact g1 c
  ·rw [g2 c,yE c];exact rfl
 exists 5
 refine⟨0,px',aZ,0,bw,yq,0,0,l5,_,_,0,1,SqL.of ag,yY,px',cur,qs',1,aE,λw2 g3 g4=> ?_⟩;have bA:Is H7 (qy qs' cur) w2:=by
  by_cases c:cur∈qs'.map (·.1)
  ·exact g3 c
  ·rw [g4 c,yE c];exact rfl
 erw[dat_k hq.1 cur,a1,a2];erw[dat_k al.1 cur,a3,a4]
 exists _,_,bx,bA,a1,a3,(),0
 have out:∀(e:D) (t1 t2:o3) (ev:V) (H':Hp),Same H7 H'->H' t1=u_ (.tup ((pre++ [cur]).map V.str))->H' t2=u_ (.tup (pp.map λp:Nat=>V.int (p:Int)))->Is H' e ev->Rsn qs qs' cur [] [] e->∀t4,H' t4=U_->Q (.ref t4) (upd H' t4 (.tup [.ref t1,.ref t2,ev])):=by
  intro e t1 t2 ev H' s' h1 h2 h3 hR t4 h4;have st:=qf h4 (.tup [.ref t1,.ref t2,ev]);have hr:=hW.rs [] [] e hR;rw [uW,uW] at hr;refine kN am _ _ _ _ e ((s7.trans s').trans st) hr (by have:=hW.few hq;rw [Fq,uB];show pre.length+1-1<=60;omega) (by have:=hW.few hq;omega) ?_
  unfold rsnD;rw [hd_tl hW.hd];exact Is.new ⟨_,0,⟨t1,0,h1,ZC aD⟩,_,0,⟨t2,0,h2,ints_is pp⟩,_,0,h3,1⟩ h4
 by_cases ak:qy qs cur=qy qs' cur;rotate_left
 ·have en:eqN (qy qs cur) (qy qs' cur)=false:=by
   cases e:eqN (qy qs cur) (qy qs' cur) with
   |false=>rfl
   |true=>exact absurd ((jA (kD_n a1)).mp e) ak
  refine iteN en (q6 _ _ ?_)
  exists 5
  refine⟨0,l5,0,.inl [SqL.of ax:λt1 h1=> ?_]⟩;have m1:=qf h1 (.tup ((pre++ [cur]).map V.str))
  exists 5
  refine⟨0,l6,0,.inl [SqL.of (m1 _ _ aJ):λt2 h2=> ?_]⟩;have m2:=qf h2 (.tup (pp.map λp:Nat=>V.int (p:Int)))
  exists 5
  refine[(sml rfl):λt3 h3=> ?_];have m3:=qf h3 (.tup [V.str "source"])
  exists 5
  refine[(sml rfl):λt4 h4=> ?_];exact out _ t1 t2 (.ref t3) _ ((m1.trans m2).trans m3) (m3 _ _ (m2 _ _ qg)) (m3 _ _ qg) (Is.new (ds:= [.str "source"]) ⟨_,0,yl (),1⟩ h3) (.src ak) t4 h4
 refine iteB (by rw [ak];exact(jA (kD_n a3)).mpr rfl) ?_
 erw[turn hq al ak hW.ne,gg,cs,lx,ly,kd,z,an,rr,t1,t2,tP,t3,t4,t5,t6,_,t7]
 exists λσ' H'=>∃m',m'<60-pre.length/\J_ m' σ' H',λ_ _ h=>h;have ao:=aT.same af;have ap:=aI.same af;erw[ao.get t1 hW.at1,v1,b1,b2,b3,b4];erw[ap.get t2 hW.at2,v2,b5,b6,b7,b8];exists 8,B1,p1;erw[id b2,bB,cf,rfl,a5,x1,cg,rfl,aK,ch,bV,rfl,_,_];erw[id b6,bC,ci,rfl,a6,x2,cj,rfl,aL,ck,bW,rfl,_,_]
 exists 5
 refine⟨0,o1.x,_,o1.dx,_,0,ao.oa.e,T.qw,T.Qb,of_fr o1,0,0,l5,_,_,0,1,SqL.of ag,yY,o1.dr,0,(by rw [<-b1];exact DGet.k (k:=Vc cur) ao.dr),bB,_,_,0,1,SqT.of a5,Qc (j:=0) rfl,p1 _ _ ?_⟩
 exists 8,B2,p2
 exists 5
 refine⟨0,o2.x,_,o2.dx,_,0,ap.oa.e,T.qw,T.Qb,of_fr o2,0,0,l5,_,_,0,1,SqL.of ag,yY,o2.dr,0,(by rw [<-b5];exact DGet.k (k:=Vc cur) ap.dr),bC,_,_,0,1,SqT.of a6,Qc (j:=0) rfl,p2 _ _ ?_⟩
 exists 8,B3,p3;erw[KH b3 b4,c5,c6];erw[KH b7 b8,c7,c8];have a7:=ZE b3;have a8:=ZE b7;rw [t3] at aK c5 c6 a7;rw [t4] at aL c7 c8 a8;rw [uB] at a7 a8
 exists 5
 refine⟨0,0,x1,x2,cs,lx,ly,1,aK,aL,c5,c7,(),t5,λH8 s8=>p3 _ _ ?_⟩
 exists 8,B4,p4
 exists 0,0,0;unfold wH;refine sl_fr (n:=cs.length) (aK.mono s8.tk) λu1 H9 s9 i9=> ?_;rw [Hm] at i9
 exists 0,0,0
 try unfold wH
 refine sl_fr (n:=cs.length) (aL.mono (s8.trans s9).tk) λu2 cm a9 ba=> ?_;rw [Hm] at ba;refine catG_is (i9.mono a9.tk) ba () λu3 bD bE bb=> ?_
 rw [t6] at bb;erw[bb,q3,cn,rfl,bF,x3,r3,rfl,bG,_];erw[bG,q4,cp,rfl,bH,x4,r4,rfl,bI,_];erw[bI,q5,cq,rfl,bc,x5,r5,rfl,[rfl,bJ],x6,r6,rfl,[rfl,bK],bL];cases(show r6= [] from bL)
 exists 5
 refine⟨q3,_,_,0,1,SqT.of bF,Qc (j:=0) rfl,.inr (.inl ⟨q4,_,_,0,1,SqT.of bH,Qc (j:=0) rfl,p4 _ _ ?_⟩)⟩;exists 8,B5,p5;have bd:=((s8.trans s9).trans a9).trans bE
 exists 5
 refine⟨0,q5,_,_,0,1,SqT.of bc,1,(sml rfl),λt8 h8=> ?_⟩;have aM:=qf h8 (.tup [V.str "has",V.str "names"])
 exists t8,0,.inr (SqT.of qg),1,1,0;have ad:=aM _ _ bc;have U:=bd.trans aM;generalize upd bD t8 (.tup [V.str "has",V.str "names"])=aN at aM ad U⊢;rcases t7 with hk|⟨hk,bM,bN,bO,be,bP⟩
 ·refine iteB ((inHN kd).trans hk) ?_;have aq:=U _ _ ax
  exists 5
  refine⟨0,l5,0,.inl [SqL.of aq:λy1 e1=> ?_]⟩;have m1:=qf e1 (.tup ((pre++ [cur]).map V.str))
  exists 5
  refine⟨0,l6,0,.inl [SqL.of (m1 _ _ (U _ _ aJ)):λy2 e2=> ?_]⟩;have m2:=qf e2 (.tup (pp.map λp:Nat=>V.int (p:Int)))
  exists 5
  refine[0:(sml rfl):λy3 e3=> ?_];have m3:=qf e3 (.tup [V.str "ask",V.ref q5])
  exists 5
  refine[(sml rfl):λy4 e4=> ?_];have bf:=m1.trans m2;have bg:Is (upd (upd aN y1 (.tup ((pre++ [cur]).map V.str))) y2 (.tup (pp.map λp:Nat=>V.int (p:Int)))) (.tup [.str kd,.str z]) (.ref q5):=⟨q5,0,bf _ _ ad,_,0,[1:bJ],_,0,[1:bK],1⟩;exact out _ y1 y2 (.ref y3) _ ((U.trans bf).trans m3) (m3 _ _ (m2 _ _ qg)) (m3 _ _ qg) (Is.new (ds:= [.str "ask",.tup [.str kd,.str z]]) ⟨_,0,yl (),_,0,bg,1⟩ e3) (.ask ak tP t6 hk) y4 e4
 ·refine iteN ((inHN kd).trans hk) (p5 _ _ ?_);exists 8,B6,p6;erw[hW.more hq aa.dn O.dn ak t1 t2 tP t6 hk bM bN bO be bP,bQ,bX];have ah:=U _ _ aJ;have aq:=U _ _ ax
  exists 5
  refine⟨0,.inl [1:_:SqL.of ah],0,l6,_,0,1,ah,(by rw [uc,aX];omega),p6 _ _ ?_⟩
  have nz:l5≠l6:=aw;have bh:upd aN l6 (.lst ((pp.map λp:Nat=>V.int (p:Int))++ [V.int (cs.length:Int)])) q5=u_ (.tup [V.str kd,V.str z]):=by rw [qh (λzz=>by rw [zz,ah] at ad;cases ad)];exact ad
  have au:upd aN l6 (.lst ((pp.map λp:Nat=>V.int (p:Int))++ [V.int (cs.length:Int)])) l5=u_ (.lst ((pre++ [cur]).map V.str)):=by rwa [qh nz]
  exists 5
  refine⟨0,.inl [1:_:SqL.of au],0,q5,_,_,0,1,SqT.of bh,1,l5,_,0,1,au,(by rw [uc,uB,vq];omega),?_⟩
  have bR:z.length<=100:=by
   erw[be,k,e1,e2];have:=w9 (jj (itP_gi hq t1 k).1 e1 e2).1;omega
  have bo:(pre++ [cur]).length=pre.length+1:=by rw [uB];rfl
  exists 5
  refine⟨60-(pre++ [cur]).length,(),pre++ [cur],z,pp++ [cs.length],_,_,_,0,1,bQ,?_,?_,?_,?_,?_⟩
  ·rw [qg,uu (l₁:=pre++ [cur])]
   rfl
  ·rw [qh aw.symm,qg,uu]
   rfl
  ·rw [uB,bo,aX]
   rfl
  ·exists 5
   refine[λb ob e hb=> ?_:((hK.tk.trans U.tk).trans (Tk.updL ah)).trans (Tk.updL au)];simp![uC,uD,uO,V3] at hb;rw [qh hb.1,qh hb.2];exact U b ob (af b ob e)
  ·intro x hx;rcases Af.mp hx with hx|hx
   ·exact aD x hx
   ·cases Ae.mp hx;exact bR
def TblAt (H:Hp)(d:o3)(ps:oj (Str×D)):Prop:=∃vs:oj (Str×V),H d=u_ (.dK (inrK vs))/\vs.map (·.1)=ps.map (·.1)/\L2.IsL H (ps.map (·.2)) (vs.map (·.2))
def fltP (qs:oj (Str×D))(z:Str):oj (Str×D):=qs.filter λp=>decide (p.1≠z)
theorem fltP_ok (h:PrOk qs)(z:Str):PrOk (fltP qs z):=by
 refine[[λy U=> ?_:?_]:λp O=>h.2 p (Ah.mp O).1]
 ·erw[Ag.mp U,p,O,rfl];exact h.1.1 _ (Ag.mpr [p:(Ah.mp O).1:1])
 ·exact h.1.2.sublist (List.filter_sublist.map _)
theorem fltP_len (qs:oj (Str×D))(z:Str):(fltP qs z).length<=qs.length:=Uz ..
def fltV (vs:oj (Str×V))(z:Str):oj (Str×V):=vs.filter λp=>decide (p.1≠z)
theorem drop_inr (vs:oj (Str×V))(z:Str):jm (inrK vs) (Vc z)=inrK (fltV vs z):=by
 unfold jm inrK fltV;rw [List.filter_map];refine congrArg (HU _) (List.filter_congr λp _=> ?_);simp
theorem fltP_tbl {H:Hp}{z:Str}:∀{ps:oj (Str×D)}{vs:oj (Str×V)},vs.map (·.1)=ps.map (·.1)->L2.IsL H (ps.map (·.2)) (vs.map (·.2))->(fltV vs z).map (·.1)=(fltP ps z).map (·.1)/\L2.IsL H ((fltP ps z).map (·.2)) ((fltV vs z).map (·.2))
 | [],[],_,_=>[1:1]
 | [],_::_,e,_=>by simp at e
 |_::_,[],e,_=>by simp at e
 |p::ps,v::vs,e,h=>by
  simp![ui,vx] at e;erw[h,u,r,O,h1,h2];simp![ui,vx] at O;erw[O,rfl,rfl];erw[fltP_tbl (z:=z) e.2 h2,U,Z];unfold fltV fltP at*;rw [vz,vz];by_cases c:p.1=z
  ·rw [A2 (by rw [e.1];simpa using c),A2 (by simpa using c)]
   exact[U:Z]
  ·rw [Aa (by rw [e.1];simpa using c),Aa (by simpa using c)]
   exact⟨by rw [ui,ui,U,e.1],⟨_,0,h1,Z⟩⟩
def setP {β:Type}(ps:oj (Str×β))(z:Str)(e:β):oj (Str×β):=ps.map λp=>if p.1=z then(p.1,e) else p
def putP {β:Type}(ps:oj (Str×β))(z:Str)(e:β):oj (Str×β):=if z∈ps.map (·.1) then setP ps z e else ps++ [(z,e)]
theorem put_inr (vs:oj (Str×V))(z:Str)(v:V):putK (inrK vs) (Vc z) v=inrK (putP vs z v):=by
 unfold putP;by_cases c:z∈vs.map (·.1)
 ·rw [Aa c];unfold putK;rw [Aa]
  ·unfold inrK setP;rw [uL,uL];refine vO λp _=> ?_;by_cases h:p.1=z
   ·simp [h]
   ·simp [h]
  ·unfold inrK;rw [HD,tS];erw[Ag.mp c,p,O,e];exact⟨p,O,by simp [e]⟩
 ·rw [A2 c,Kj _ (look0 c)];unfold inrK;rw [uu]
  rfl
theorem set_tbl {H:Hp}{z:Str}{O:D}{u:V}(U:Is H O u):∀{ps:oj (Str×D)}{vs:oj (Str×V)},vs.map (·.1)=ps.map (·.1)->L2.IsL H (ps.map (·.2)) (vs.map (·.2))->(setP vs z u).map (·.1)=(setP ps z O).map (·.1)/\L2.IsL H ((setP ps z O).map (·.2)) ((setP vs z u).map (·.2))
 | [],[],_,_=>[1:1]
 | [],_::_,e,_=>by simp at e
 |_::_,[],e,_=>by simp at e
 |p::ps,v::vs,e,h=>by
  simp![ui,vx] at e;erw[h,u',r,Z,h1,h2];simp![ui,vx] at Z;erw[Z,rfl,rfl];erw[set_tbl (z:=z) U e.2 h2,i1,i2];rw [show setP (p::ps) z O=(if p.1=z then(p.1,O) else p)::setP ps z O from rfl,show setP (v::vs) z u=(if v.1=z then(v.1,u) else v)::setP vs z u from rfl]
  by_cases c:p.1=z
  ·rw [Aa c,Aa (e.1.trans c)];refine[?_:⟨_,0,U,i2⟩];rw [ui,ui,i1];exact congrArg (·::_) e.1
  ·rw [A2 c,A2 (λq=>c (e.1.symm.trans q))];refine[?_:⟨_,0,h1,i2⟩];rw [ui,ui,i1];exact congrArg (·::_) e.1
variable {u:V}
theorem put_tbl (U:Is H e u){ps:oj (Str×D)}{vs:oj (Str×V)}(O:vs.map (·.1)=ps.map (·.1))(Z:L2.IsL H (ps.map (·.2)) (vs.map (·.2))):(putP vs z u).map (·.1)=(putP ps z e).map (·.1)/\L2.IsL H ((putP ps z e).map (·.2)) ((putP vs z u).map (·.2)):=by
 unfold putP;by_cases c:z∈ps.map (·.1)
 ·rw [Aa c,Aa (by rw [O];exact c)]
  exact set_tbl U O Z
 ·rw [A2 c,A2 (by rw [O];exact c)]
  refine⟨by rw [uu,uu,O];rfl,?_⟩
  rw [uu,uu];exact Z.append (L2.IsL.one U)
theorem TblAt.up {d:o3}{ps:oj (Str×D)}{vs ws:oj (Str×V)}(hd:H d=u_ (.dK (inrK vs)))(h1:ws.map (·.1)=ps.map (·.1))(h2:L2.IsL H (ps.map (·.2)) (ws.map (·.2))):TblAt (upd H d (.dK (inrK ws))) d ps:=
 ⟨ws,qg,h1,h2.mono (Tk.updD hd)⟩
theorem set_keys {β:Type}(z:Str)(e:β):∀ps:oj (Str×β),(setP ps z e).map (·.1)=ps.map (·.1)
 | []=>rfl
 |p::r=>by
  rw [show setP (p::r) z e=(if p.1=z then(p.1,e) else p)::setP r z e from rfl,ui,ui,set_keys z e r]
  split<;>rfl
theorem put_ok {ps:oj (Str×D)}{d:D}(h:PrOk ps)(hn:nm z=v_)(hd:Zq d):PrOk (putP ps z d)/\(putP ps z d).length<=ps.length+1:=by
 unfold putP;by_cases c:z∈ps.map (·.1)
 ·rw [Aa c];refine⟨⟨by rw [set_keys];exact h.1,λp O=> ?_⟩,by unfold setP;rw [uc];omega⟩
  erw[Ag.mp O,p0,Z,rfl];split
  ·exact hd
  ·exact h.2 p0 Z
 ·rw [A2 c];refine⟨[[λy U=> ?_:?_]:λp O=> ?_],by rw [uB];exact uj _⟩
  ·rw [uu] at U;rcases Af.mp U with U|U
   ·exact h.1.1 y U
   ·cases Ae.mp U;exact hn
  ·rw [uu,To];refine⟨h.1.2,by simp,λa ha b hb e=> ?_⟩
   cases Ae.mp hb;rw [e] at ha;exact c ha
  ·rcases Af.mp O with O|O
   ·exact h.2 p O
   ·cases Ae.mp O;exact hd
theorem items_at {vs:oj (Str×V)}{ts:oj o3}(h:zq H (inrK vs) ts):ts.length=vs.length/\∀(j:Nat) (t:o3) (p:Str×V),ts[j]? =u_ t->vs[j]? =u_ p->H t=u_ (.tup [.str p.1,p.2]):=by
 refine⟨by have:=h.1;unfold inrK at this;rwa [uc] at this,λj t p h1 h2=> ?_⟩
 have:=h.2 j t (Vc p.1,p.2) h1 (by unfold inrK;rw [uI,h2];rfl)
 exact this
theorem items_pr {ps:oj (Str×D)}{vs:oj (Str×V)}{ts:oj o3}(h:zq H (inrK vs) ts)(O:vs.map (·.1)=ps.map (·.1))(U:L2.IsL H (ps.map (·.2)) (vs.map (·.2)))(Z:PrOk ps):L2.IsL H (ps.map prD) (ts.map V.ref):=by
 erw[items_at h,h1,h2];exact prs_is O U h1 (λp hp=>by have:=w9 (Z.1.1 p.1 (Ag.mpr [p:hp:1]));omega) h2
inductive ke (vs:List V) (H:Hp) (Q:VK) (E_:XK):Prop
 |mk (L p nl:Addr) (ps:List (Str×D)) (us:List V) (zs:List Str) (_:vs= [.ref L,.ref p,.ref nl]) (_:H L=u_ (.lst us)) (_:L2.IsL H (ps.map prD) us) (_:PrOk ps) (_:ps.length<=50) (_:PotQ H p) (_:H nl=u_ (.lst (zs.map V.str))) (_:Nm4 zs) (_:∀(t:Addr) (rs:List (Str×D)) (ws:List V) (H':Hp),Kept p H H'->PotQ H' p->H' t=u_ (.lst ws)->L2.IsL H' (rs.map prD) ws->PrOk rs->rs.length<=ps.length+2->Q (.ref t) H')
theorem ok_changed (T:Tx K mg a):#[K,7,a.XX,a.Xm,["pairs","pot","names"],ke]:=by
 have qT:=#[Xc,T];have j9:=#[ok_srcd,T];refine T.g_law_changed.F.ok yV () (λ_ _ _ _ H vs Q E hr h=> ?_)
 erw[h,L,p,nl,ps,us,zs,rfl,hL,au,hok,h8,hp,ao,hN,k];have hs:=uF;erw[pairs_at au,ts,vs,rfl,e1,e2,e3,e4];have aM:vs.length=ps.length:=by
  have:=congrArg VT e3
  rwa [uc,uc] at this
 exists 3,%[#[qD,(3),yV.nd,#[qK,#[WX,1,rfl],T.z_dict,HP,#v[pv 0]]],#[jf,#[yf,#v[#[qV,QY,qi,#[qt,qT,hr.mono (),T.g_law_take,#v[pv 1,qi]]]]],#[qZ,(4),yV.nd],%[#[qD,(5),yV.nd,#[qJ,QO,pv 2,#[qt,qT,hr.mono (),T.g_law_take,#v[pv 1,#[qz,qP,T.yK,uJ,#v[pv 2]]]]]]|#[qL,#[qp,QF,#[qt,qT,hr.mono (),T.g_law_take,#v[pv 1,qi]],qi,qB _],%[|#[qY,#[pe_dpop2,9,pv 3,pv 5,qW,⟨1,1,1,1⟩]]],%[|#[Js,pv 3,pv 5,#[qt,j9,hr.mono (),T.g_law_source,#v[pv 1,pv 2]]]]]]]|#[qr,#[pe_lstItems,8,rfl,_,T.z_list,boot_list,pv 3,_,_,_,_,_,_]]]
 exists 8,N1,q1
 exists 5
 refine⟨0,L,vs,1,⟨ts,hL,e1,e2⟩,(by rw [e3];exact hok.1.2),(),λO ae=>q1 _ _ ?_⟩
 have s0:=qf ae (.dK (inrK vs));have t0:TblAt (upd H O (.dK (inrK vs))) O ps:=⟨vs,qg,e3,e4.mono s0.tk⟩;generalize upd H O (.dK (inrK vs))=H0 at s0 t0⊢;have af:O≠p:=λz=>by erw[hp,x,hx,_];rw [z,hx] at ae;cases ae
 have am:=hp.ne_strs ao;exists 8,N2,q2
 exists 5
 refine⟨0,p,(2),1,hp.same s0,(),(),λj0 H1 a0 b0 P1 K1=>⟨_,0,1,0,(),(),?_⟩⟩
 let J_:Nat->L2.St->Hp->Prop:=λi σ H'=>E3 λ(rs:oj (Str×D)) (v4:om V) (v5:om V)=>A6 (σ= [u_ (.ref L),u_ (.ref p),u_ (.ref nl),u_ (.ref O),v4,v5]) (Kept p H H') (PotQ H' p) (TblAt H' O rs) (PrOk rs) (rs.length<=ps.length+i)
 have aw:Kept p H H1:=(Kept.of s0).trans K1;erw[t0,ax,ay,aA,aB];have aC:=(hp.same s0).tk P1 K1;refine ja (lo:=0) J_ ⟨ps,U_,U_,1,aw,P1,⟨ax,K1 _ _ ay af,aA,aB.mono aC⟩,hok,()⟩ ?_ ?_
 ·rintro i σ H2 hi ⟨rs,v4,v5,rfl,K2,P2,⟨ws,hD,U,ag⟩,Z,lr⟩;have aN:i<2:=by omega
  have ah:=K2 _ _ ao am;have aD:ws.length=rs.length:=by
   have:=congrArg VT U
   rwa [uc,uc] at this
  have aO:(inrK ws).length=rs.length:=by unfold inrK;rwa [uc]
  show tSeq _ _ _ _ H2;exists 8,B1,b1
  exists 5
  refine⟨0,0,0,nl,0,.inl (SqL.of ah),p,0,P2,(by rw [uc];have:=hN.1;omega),(by rw [uc];have:=hN.2.1;omega),λj1 H3 a1 aE P3 K3=> ?_⟩
  erw[jD (xs:=zs.map V.str) (i:=j1) a1 aE,x1,ap];erw[Ag.mp (xD ap),z1,aF,rfl];have ak:=K3 _ _ ah am
  exists 5
  refine⟨nl,_,_,0,1,SqL.of ak,ap,b1 _ _ ?_⟩;have aG:=(hN.2.2 z1 aF).1
  exists 5
  refine⟨0,p,(4),1,P3,(),(),λj2 H4 a2 b2 P4 K4=> ?_⟩
  have ac:=K3.trans K4;have ad:H4 O=u_ (.dK (inrK ws)):=ac _ _ hD af;have aq:Tk H2 H4:=P2.tk P4 ac;have al:=ag.mono aq;have fin:∀(xs:oj (Str×V)) (aa:oj (Str×D)) (H5:Hp),Kept p H2 H5->PotQ H5 p->H5 O=u_ (.dK (inrK ws))->xs.map (·.1)=aa.map (·.1)->L2.IsL H5 (aa.map (·.2)) (xs.map (·.2))->PrOk aa->aa.length<=ps.length+(i+1)->
    J_ (i+1) [u_ (.ref L),u_ (.ref p),u_ (.ref nl),u_ (.ref O),u_ (V.int (0+(i:Int))),u_ (.str z1)] (upd H5 O (.dK (inrK xs))):=λxs aa H5 k5 p5 h5 f1 f2 f3 f4=>
   ⟨aa,_,0,λb o e hb=>(by rw [qh (ql e ae)];exact k5 _ _ (K2 _ _ e hb) hb),(by erw[p5,x,hx,aH];exact⟨x,by rwa [qh af.symm],aH⟩),TblAt.up h5 f1 f2,f3,f4⟩
  exists 1,0;by_cases c0:j2=0
  ·refine iteB (uf (by rw [c0])) ?_
   exists 5
   refine⟨0,O,1,.inl [_:.inl ad],0,inrK ws,Vc z1,ad,1,λv hv=> ?_,λhv=> ?_⟩
   ·rw [drop_inr];erw[fltP_tbl (z:=z1) U al,f1,f2];have:=fltP_len rs z1;exact fin _ _ H4 ac P4 ad f1 f2 (fltP_ok Z z1) ()
   ·exact⟨rs,_,0,K2.trans ac,P4,⟨ws,ad,U,al⟩,Z,()⟩
  ·refine iteN (uh (λz=>c0 (V.int.inj z))) ?_
   exists 5
   refine⟨0,0,p,nl,zs,1,P4,K4 _ _ ak am,hN,λv6 e6 H6 aI i6 P6 K6=> ?_⟩;have h5:H6 O=u_ (.dK (inrK ws)):=K6 _ _ ad af;have aJ:=aq.trans (P4.tk P6 K6);erw[put_tbl (z:=z1) i6 U (ag.mono aJ),f1,f2];erw[put_ok Z aG aI,o1,o2]
   exists 0,0,O,0,DPut.k (k:=Vc z1) h5 ()
   rw [put_inr];exact fin _ _ H6 (ac.trans K6) P6 h5 f1 f2 o1 ()
 ·rintro σ H2 ⟨rs,v4,v5,rfl,K2,P2,⟨ws,hD,U,ag⟩,Z,lr⟩;refine q2 _ _ ?_
  exists 5
  refine⟨0,O,inrK ws,1,.inl hD,λt ts H3 s3 _ aK aL=> ?_⟩;exact k t rs _ H3 (K2.trans (Kept.of s3)) (P2.same s3) aK (items_pr aL U (ag.mono s3.tk) Z) Z ()
inductive sp_fullr (CP:Addr) (vs:List V) (H:Hp) (Q:VK) (E_:XK):Prop
 |mk (px:Addr) (n:Str) (qs:List (Str×D)) (gp:Gp) (_:vs= [.ref px,.str n]) (_:nm n=v_) (_:Q5 CP H px qs) (_:Qn qs) (_:g0D n (qy qs n)=u_ gp) (_:∀v H',Same H H'->GI (itP qs 302 gp)->(itP qs 302 gp).en.isSome=v_->Is H' (Y7 (itP qs 302 gp)) v->Q v H')
inductive sp_ansof (CP:Addr) (vs:List V) (H:Hp) (Q:VK) (E_:XK):Prop
 |mk (px:Addr) (n:Str) (qs:List (Str×D)) (_:vs= [.ref px,.str n]) (_:nm n=v_) (_:Q5 CP H px qs) (_:Qn qs) (_:∀v H' d,Same H H'->Is H' d v->ansIs (FP qs n) d->nrg d->Q v H')
theorem ok_fullr (T:Tx K mg a)(C:Fx K w mg g a):#[K,16,a.WA,a.Wx,["project","name"],(sp_fullr a.qC)]:=by
 have QL:=#[kH,T,C];refine T.g_full_run.F.ok ZT () (λ_ _ _ _ H vs Q E hr h=> ?_)
 erw[h,px,n,qs,gp,rfl,hn,hP,hq,hg,k];exists 3,%[#[qD,(2),ZT.nd,#[qt,QL,hr.mono (),T.g_order_from,#v[pv 0,pv 1]]],#[qL,#[pt_cmp,6,#[pc_dnotin,5,QW hr,pv 1,#[qO,5,pv 2,rfl]],_],%[|YQ],qx]|#[qr,#[Qz,#[qO,5,pv 2,rfl],pv 1]]]
 exists 8,N1,q1
 exists 5
 refine⟨0,0,px,n,qs,1,hn,hP,hq,λH' o rk uk fk don _ h _=>q1 _ _ ?_⟩;erw[rk_vs h.ks,vs,e1,e2,e3];have hk:vs.map (·.1)=(don.map λq=>(q.1,Y7 q.2)).map (·.1):=by rw [e2,uL];rfl
 have hi:L2.IsL H' ((don.map λq=>(q.1,Y7 q.2)).map (·.2)) (vs.map (·.2)):=by rw [e3,uL];exact h.vs
 have Z:=h.dr;rw [e1] at Z;have he:=h.oa.e;exists 8,N2,q2
 exists 0,0,o.x,_,o.dx,_,0,he,T.qw,T.Qb,of_fr o,o.dr,0,DGet.k (k:=Vc n) Z,0;have hl:=dn_last hg h.dn;have U:=Fp hl;erw[Ag.mp U,[m,p],aa,rfl];have ac:m∈(don.map λq=>(q.1,Y7 q.2)).map (·.1):=by rwa [uL]
 erw[look2 hk hi ac,l1,l2];have hd:qy (don.map λq=>(q.1,Y7 q.2)) m=Y7 p:=dat_of (by rw [uL];exact dn_nd h.dn) (Ag.mpr [(m,p):aa:1])
 rw [hd] at l2;erw[dn_mem h.dn aa,s0,f1,f2];have f1:g0D m (qy qs m)=u_ s0:=f1;have hg:g0D m (qy qs m)=u_ gp:=hg;rw [hg] at f1;cases f1;have f2:p=itP qs 302 gp:=f2;have O:=h.gi _ aa;have O:GI p/\p.en.isSome=true:=O;rw [l1];refine iteN rfl (q2 _ _ ?_)
 exists 5
 refine⟨0,o.x,_,o.dx,_,0,he,T.qw,T.Qb,of_fr o,0,o.dr,0,(by rw [<-l1];exact DGet.k (k:=Vc m) Z),?_⟩
 rw [f2] at l2 O;exact k _ H' h.sm O.1 O.2 l2
theorem ok_ansof (T:Tx K mg a)(C:Fx K w mg g a):#[K,16,a.wF,a.Z6,["project","name"],(sp_ansof a.qC)]:=by
 have QL:=#[kH,T,C];have qS:=#[ok_yet,T];exists 9,T.g_answer_of,sc_answer_of,Z
 erw[h,px,n,qs,rfl,hn,hP,hq,k];exists 3,%[|#[qr,#[Qi,20,#[qt,QL,Z.mono (),T.g_order_from,#v[pv 0,pv 1]],T.qw,T.g_PlainOrder_answer_yet.h,qS,Z.mono (),T.g_PlainOrder_answer_yet.b,.nil,qA,#v[pv 1],_,_,_]]]
 exists 5
 refine⟨0,0,px,n,qs,1,hn,hP,hq,λH1 o rk uk fk don _ O hl=> ?_⟩
 exists 5
 refine⟨o.x,o.dx,0,O.oa.e,Zt o _ (),0,o,n,qs,#[Y,[],don],uk,fk,1,O.oa,hq,O.sg,O.du,O.uo,O.df,O.fd,(),(λp hp=>(O.gi p hp).2),λv H2 aa k2 f2 d2 l2 _ U=> ?_⟩
 unfold YetIs at U;rw [dn_yet O.dn (XZ O.dn)] at U;erw[U,d,hd,ha,hg];refine k v H2 d (λb ob e=>k2.kept b ob (O.sm b ob e) (λz=> ?_)) hd ha (hg (λz=>by cases z))
 rw [Ae.mp z,O.new.2.2.2] at e;cases e
theorem ok_lstand (T:Tx K mg a)(C:Fx K w mg g a):#[K,17,a.JX,a.J2,["project","name"],(ZP a.qC)]:=by
 have O:=#[ok_ansof,T,C];exists 9,T.g_law_standing,Jp
 erw[h,px,n,qs,rfl,hn,hP,hq,k];exists 3,%[#[qD,(2),Jp.nd,#[qt,O,hr.mono (),T.g_answer_of,#v[pv 0,pv 1]]],#[qL,#[qp,Qt,#[qJ,qI,pv 2,qi],#[Qw,#v[qk,qk]],#[w]],%[|#[qr,#[qE,#v[qk]]]],qx]|#[qr,pv 2]]
 exists 5
 refine⟨0,0,px,n,qs,1,hn,hP,hq,λv H1 d s1 hd ha aa=> ?_⟩;erw[aa,kk,rr,rfl,ac];erw[id hd,qa,wa,rfl,ad,w1,r1,rfl,[rfl,ae],h3]
 exists 5
 refine⟨0,qa,_,_,0,1,SqT.of ad,Qc (j:=0) rfl,sml rfl,λt ht=> ?_⟩;have s2:=qf ht (.lst [V.str "fault",V.str "stuck"])
 exists t,0,.inl (SqL.of qg),1,1,0;have U:inV (V.str kk) [V.str "fault",V.str "stuck"]=decide (kk∈(["fault","stuck"]:oj Str)):=xB kk ["fault","stuck"];cases Z:FP qs n with
 |some x=>
  rw [Z] at ha;have hk:kk∉(["fault","stuck"]:oj Str)/\D.tup (.str kk::rr)=stdD (u_ x):=by
   cases x with
   |none=>cases(show D.tup (.str kk::rr)= .tup [.str "lack"] from ha);exact[():1]
   |some y=>cases(show D.tup (.str kk::rr)= .tup [.str "value",y] from ha);exact[():1]
  refine iteN (U.trans (uh hk.1)) [0:k _ _ (s1.trans s2) ?_];rw [Z,<-hk.2];exact hd.mono s2.tk
 |none=>
  rw [Z] at ha;erw[ha,k2,r2,e5,c1,c2];cases e5;have hk:kk∈(["fault","stuck"]:oj Str):=by
   rcases ac with h|h|h|h
   ·exact absurd h c1
   ·exact absurd h c2
   ·rw [h];exact ug
   ·rw [h];exact ud _ ug
  refine iteB (U.trans (uf hk)) [sml rfl:λt3 h3=> ?_];have s3:=qf h3 (.tup [V.str "none"]);refine k _ _ ((s1.trans s2).trans s3) ?_;rw [Z];exact Is.new (ds:= [.str "none"]) ⟨_,0,yl (),1⟩ h3
def AT (g:Gp):Prop:=∀x∈QA g,∃l,x=D.tup l
theorem at_take {g:Gp}(ha:GA g)(U:g.en=U_)(h:AT g)(d:D):AT (Yn g d):=by
 intro x O;rw [(Yx ha U d).1] at O;rcases Af.mp O with O|O
 ·exact h x O
 ·cases Ae.mp O;exact⟨0⟩
theorem step_at {g:Gp}(ha:GA g)(h:AT g):AT (Sy.step (SyP qs) (FP qs) g):=by
 rw [xz];cases O:g.en with
 |some d=>exact h
 |none=>
  simp![Uo,A2 u5];cases U:QU g with
  |none=>
   show AT (ownP qs g);unfold ownP;split
   ·exact at_take ha O h _
   ·exact h
  |some m=>
   simp only;cases FP qs m with
   |some a=>exact at_take ha O h _
   |none=>exact h
theorem it_at {qs:oj (Str×D)}(O:Qn qs):∀(k:Nat) {g:Gp},GI g->GA g->AT g->AT (itP qs k g)
 |0,g,h,ha,t=>t
 |k+1,g,h,ha,t=>by
  erw[wR O (F_ok O) h ha,h1,h2];exact it_at O k h1 h2 (step_at ha t)
theorem asks_at (U:Qn qs){g:Gp}(O:g0D m (qy qs m)=u_ g)(k:Nat):AT (itP qs k g):=
 it_at U k (gi_g0 U O).1 (ga_g0 O).1 (λx Z=>by rw [(ga_g0 O).2] at Z;cases Z)
theorem WU:∀{ds:oj D}{j:Nat}{d:D},nL ds=v_->ds[j]? =u_ d->nD d=v_/\dp d<=dpL ds
 | [],j,d,_,h=>by cases h
 |x::r,0,d,h,e=>by
  cases e;have h:(nD x&&nL r)=true:=by simpa [nL] using h
  exact⟨(uw _ _▸h).1,by simp![dpL];omega⟩
 |x::r,j+1,d,h,e=>by
  have h:(nD x&&nL r)=true:=by simpa [nL] using h
  erw[WU (ds:=r) (j:=j) (uw _ _▸h).2 e,a,b];exact⟨a,by simp![dpL];omega⟩
inductive WV (CP:Addr) (vs:List V) (H:Hp) (Q:VK) (E_:XK):Prop
 |mk (px px':Addr) (n:Str) (qs qs':List (Str×D)) (g:Gp) (cs lx ly:List D) (kd z:Str) (_:vs= [.ref px,.ref px',.str n]) (_:nm n=v_) (_:Q5 CP H px qs) (_:Qn qs) (_:Q5 CP H px' qs') (_:Qn qs') (_:g0D n (qy qs n)=u_ g) (_:g0D n (qy qs' n)=u_ g) (_:QA (itP qs 302 g)=cs++lx) (_:QA (itP qs' 302 g)=cs++ly) (_:lx.take 1≠ly.take 1) (_:HdA lx kd z) (_:HdA ly kd z) (_:∀v H',Same H H'->Is H' (.tup [.int (cs.length:Int),.tup [.str kd,.str z]]) v->Q v H')
theorem ok_parting (T:Tx K mg a)(C:Fx K w mg g a):#[K,17,a.XL,a.Xv,["project","other","name"],(WV a.qC)]:=by
 have WQ:=#[ok_fullr,T,C];exists 9,T.g_law_parting,Q9
 erw[h,px,px',n,qs,qs',gp,cs,lx,ly,kd,z,rfl,hn,hP,hq,aA,aB,hg,aC,e1,e2,ap,ha,hb,k];have hs:=uF;exists 3,%[#[qD,(3),Q9.nd,#[qJ,qI,#[qt,WQ,hr.mono (),T.g_full_run,#v[pv 0,pv 2]],qi]],#[qD,(4),Q9.nd,#[qJ,qI,#[qt,WQ,hr.mono (),T.g_full_run,#v[pv 1,pv 2]],qi]],#[qD,(5),Q9.nd,#[qJ,QO,#[Qw,#v[pv 3,pv 4]],#[qK,call_int1,T.z_int,boot_int,#v[#[yJ,op_gt,#[qz,qP,T.yK,uJ,#v[pv 4]],#[qz,qP,T.yK,uJ,#v[pv 3]],qB _]]]]],#[jf,#[yf,#v[#[qz,qP,T.yK,uJ,#v[pv 5]]]],#[qZ,(6),Q9.nd],%[|@qL _ _ _ _ _ _ _ _ #[zp,#[qp,op_ge,pv 6,#[qz,qP,T.yK,uJ,#v[pv 3]],qB _],#[zp,#[qp,op_ge,pv 6,#[qz,qP,T.yK,uJ,#v[pv 4]],qB _],#[xa,#[qp,#[op_neTN,1,hr.units],#[qJ,qI,pv 3,pv 6],#[qJ,qI,pv 4,pv 6],qB _]]]].pt %[|#[qr,#[qE,#v[pv 6,#[qJ,qI,#[qJ,qI,pv 5,pv 6],qi]]]]] qx]]|#[qr,qW]]
 exists 8,N1,q1
 exists 5
 refine⟨0,0,px,n,qs,gp,1,hn,hP,hq,hg,λv1 H1 s1 aq aD i1=> ?_⟩;rw [KO,ZD,e1] at i1;erw[id i1,p1,w1,rfl,aE,x1,r1,rfl,aF,_]
 exists 5
 refine⟨p1,_,_,0,1,SqT.of aE,Qc (j:=0) rfl,q1 _ _ ?_⟩;exists 8,N2,q2
 exists 5
 refine⟨0,0,px',n,qs',gp,1,hn,aA.same s1,aB,aC,λv2 H2 s2 au aG i2=> ?_⟩;rw [KO,ZD,e2] at i2;erw[id i2,p2,w2,rfl,aH,x2,r2,rfl,aI,_]
 exists 5
 refine⟨p2,_,_,0,1,SqT.of aH,Qc (j:=0) rfl,q2 _ _ ?_⟩;exists 8,N3,q3;erw[id aF,pa,ua,rfl,O,aa];erw[id aI,pb,ub,rfl,U,ac]
 exists 5
 refine⟨0,0,(sml rfl),λl3 h3=> ?_⟩;have s3:=qf h3 (.lst [V.ref pa,V.ref pb]);have aw:upd H2 l3 (.lst [V.ref pa,V.ref pb]) l3=u_ (.lst [V.ref pa,V.ref pb]):=qg;have O:=s3 _ _ (s2 _ _ O);have U:=s3 _ _ U;have aa:=aa.mono (s2.trans s3).tk;have ac:=ac.mono s3.tk;have ax:=(s1.trans s2).trans s3;generalize upd H2 l3 (.lst [V.ref pa,V.ref pb])=H3 at s3 aw O U aa ac ax⊢;have la:=aa.length;have lb:=ac.length;rw [uB] at la lb;erw[KH aq aD,c1,c2];erw[KH au aG,c3,c4];have t1:=asks_at hq hg 302;have m1:=ZE aq;have m2:=ZE au;unfold AT at t1;rw [e1] at c1 c2 t1 m1;rw [e2] at c3 c4 m2;rw [uB] at m1 m2;obtain⟨pl,ul,ll,ad,ay,Z,an,rr,rfl⟩:∃pl ul ll,H3 pl=u_ (.tup ul)/\L2.IsL H3 (cs++ll) ul/\atI [V.ref pa,V.ref pb] (if decide ((ua.length:Int)<(ub.length:Int))=v_ then 1 else 0)=u_ (.ref pl)/\∃an rr,ll=D.tup [.tup [.str kd,.str z],an]::rr:=by
  by_cases c:(ua.length:Int)<(ub.length:Int)
  ·exists 5
   refine⟨pb,ub,ly,U,ac,(by rw [Aa (uf c)];exact Qc (j:=1) rfl),?_⟩
   rcases hb with rfl|hb
   ·simp at lb;omega
   ·exact hb
  ·exists 5
   refine⟨pa,ua,lx,O,aa,(by rw [A2 (by rw [uh c];exact u5)];exact Qc (j:=0) rfl),?_⟩
   rcases ha with rfl|ha
   ·rcases hb with rfl|⟨an,rr,rfl⟩
    ·exact absurd rfl ap
    ·simp at la lb;omega
   ·exact ha
 have aJ:=ay.length;have ml:ul.length<=400:=by
  by_cases c:(ua.length:Int)<(ub.length:Int)
  ·rw [Aa (uf c)] at Z;cases(show u_ (V.ref pb)=u_ (V.ref pl) from Z)
   rw [U] at ad;cases ad;omega
  ·rw [A2 (by rw [uh c];exact u5)] at Z
   cases(show u_ (V.ref pa)=u_ (V.ref pl) from Z)
   rw [O] at ad;cases ad;omega
 rw [uB,um] at aJ
 exists 5
 refine⟨0,pb,ub,1,.inr (SqT.of U),0,pa,ua,1,.inr (SqT.of O),_,0,1,.inr ⟨0,l3,_,_,0,1,SqL.of aw,Z,q3 _ _ ?_⟩⟩;exists 8,N4,q4
 exists 0,pl,ul,1,.inr (SqT.of ad),0,(),()
 let J_:Nat->L2.St->Hp->Prop:=λi σ H'=>E1 λ(u:om V)=>A3 (σ= [u_ (.ref px),u_ (.ref px'),u_ (.str n),u_ (.ref pa),u_ (.ref pb),u_ (.ref pl),u]) (H'=H3) (i<=cs.length)
 refine ja (lo:=0) J_ [0:1:vf _] ?_ ?_;rotate_left
 ·rintro σ H' ⟨u,rfl,rfl,hi⟩;exfalso;omega
 rintro i σ H' hi ⟨u,rfl,rfl,aN⟩;rw [Int.zero_add];have nt:∀{ds:oj D}{l:oj D}{j:Nat},nL ds=v_->dpL ds<=30->ds[j]? =u_ (.tup l)->nL l=v_/\dpL l<=60:=by
  intro ds l j h1 h2 h3;erw[WU h1 h3,n1,n2];have n2:1+dpL l<=dpL ds:=by simpa only [dp] using n2
  exact⟨by simpa only [nD] using n1,()⟩
 have ae:∀{x:D}{r:oj D},(cs++x::r)[cs.length]? =u_ x:=by
  intro x r;rw [U0 (uj _),GX]
  rfl
 have fin:∀{D':Ends},D'.rt=Q->i=cs.length->tRet (tTup (tCons (tVar 6) (tCons (tOp (rIxT K) (tOp (rIxT K) (tVar 5) (tVar 6)) (tC (V.int 0))) tNil))) D' [u_ (.ref px),u_ (.ref px'),u_ (.str n),u_ (.ref pa),u_ (.ref pb),u_ (.ref pl),u_ (.int (i:Int))] H':=by
  intro D' hD hi;erw[ay.get (i:=cs.length) ae,v,hv,iv];erw[id iv,pq,uq,rfl,aK,xq,rq,rfl,aL,_]
  exists 5
  refine⟨0,0,0,pl,_,_,0,1,SqT.of ad,Qc (by rwa [hi]),pq,_,_,0,1,SqT.of aK,Qc (j:=0) rfl,(sml rfl),λt ht=> ?_⟩
  rw [hD,hi];refine k _ _ (ax.trans (qf ht _)) (Is.new (ds:= [.int (cs.length:Int),.tup [.str kd,.str z]]) ⟨_,0,1,_,0,aL,1⟩ ht)
 rcases UN i cs.length with ag|aO
 ·obtain⟨d,hd⟩:∃d,cs[i]? =u_ d:=[_:ur ag];have ah:(cs++lx)[i]? =u_ d:=by rw [vP ag];exact hd
  have aM:(cs++ly)[i]? =u_ d:=by rw [vP ag];exact hd
  erw[t1 d (uX ah),l,rfl];erw[nt c1 c2 ah,n1,n2];erw[aa.get ah,va,ak,al];erw[ac.get aM,vb,am,ao]
  exists 5
  refine⟨0,0,pa,ua,1,.inr (SqT.of O),_,0,1,0,iteN (uh ()) ?_⟩
  exists 5
  refine⟨0,0,pb,ub,1,.inr (SqT.of U),_,0,1,0,iteN (uh ()) ?_⟩
  exists 5
  refine⟨0,0,pa,ua,_,va,1,1,SqT.of O,Qc ak,0,0,pb,ub,_,vb,1,1,SqT.of U,Qc am,l,l,al,ao,n1,n1,n2,0,iteN ?_ ?_⟩
  ·rw [(eqNL_iff n1).mpr rfl]
   rfl
  ·exact[0:1:ag]
 ·have af:i=cs.length:=by omega
  rcases ha with rfl|⟨a1,r1',rfl⟩
  ·exists 5
   refine⟨0,0,pa,ua,1,.inr (SqT.of O),_,0,1,0,iteB (uf (by rw [Uy] at la;omega)) (iteB rfl (fin rfl af))⟩
  ·rw [um] at la
   exists 5
   refine⟨0,0,pa,ua,1,.inr (SqT.of O),_,0,1,0,iteN (uh ()) ?_⟩
   rcases hb with rfl|⟨a2,r2',rfl⟩
   ·exists 5
    refine⟨0,0,pb,ub,1,.inr (SqT.of U),_,0,1,0,iteB (uf (by rw [Uy] at lb;omega)) (iteB rfl (fin rfl af))⟩
   ·rw [um] at lb;erw[nt c1 c2 ae,n1,n2];erw[nt c3 c4 ae,n3,_];erw[aa.get (i:=cs.length) ae,va,ak,al];erw[ac.get (i:=cs.length) ae,vb,am,ao]
    exists 5
    refine⟨0,0,pb,ub,1,.inr (SqT.of U),_,0,1,0,iteN (uh ()) ?_⟩
    exists 5
    refine⟨0,0,pa,ua,_,va,1,1,SqT.of O,Qc (by rwa [af]),0,0,pb,ub,_,vb,1,1,SqT.of U,Qc (by rwa [af]),_,_,al,ao,n1,n3,n2,0,iteB ?_ (fin rfl af)⟩
    cases e:eqNL [.tup [.str kd,.str z],a1] [.tup [.str kd,.str z],a2] with
    |false=>rfl
    |true=>
     have e:=(eqNL_iff n1).mp e;exact absurd (by rw [e];rfl) ap
structure Wz (qs qs':oj (Str×D))(n:Str)(pre:oj Str)(cur:Str)(pp:oj Nat):Prop where
 ne:FP qs cur≠FP qs' cur
 sd:Sd (SyP qs) pre cur∨Sd (SyP qs') pre cur
 nd:pre.Nodup
 sub:∀x∈pre,x∈qs.map (·.1)
 hd:(pre++ [cur]).head? =u_ n
 rs:∀ws ps e,Rsn qs qs' cur ws ps e->Rsn qs qs' n ((pre++ [cur]).tail++ws) (pp++ps) e
theorem Wz.few (O:Qn qs){n:Str}(h:Wz qs qs' n pre cur pp):pre.length<=60:=by
 have:=wv h.nd h.sub;rw [uc] at this;exact uM this O.2.2
theorem Wz.more {qs qs':oj (Str×D)}(hq:Qn qs){n:Str}{pre:oj Str}{cur kd z:Str}{pp:oj Nat}{cs lx ly r:oj D}{a:D}{g:Gp}(h:Wz qs qs' n pre cur pp)(hs:qy qs cur=qy qs' cur)(hg:g0D cur (qy qs cur)=u_ g)(hP:Pa qs qs' cur cs lx ly)(hl:lx++ly= .tup [.tup [.str kd,.str z],a]::r)(hk:isHN kd=V9)(aa:FP qs z≠FP qs' z)
  (s1:∀k b,Sy.Fh (SyP qs) k cur=u_ b->∃j d,j<k/\Sy.Fh (SyP qs) j z=u_ d) (s2:∀k b,Sy.Fh (SyP qs') k cur=u_ b->∃j d,j<k/\Sy.Fh (SyP qs') j z=u_ d):
  Wz qs qs' n (pre++ [cur]) z (pp++ [cs.length])/\pre.length+1<=60:=by
 have hc:cur∈qs.map (·.1):=(QI qs).gn cur g hg;have new:cur∉pre:=h.sd.elim Sd.new Sd.new;have U:(pre++ [cur]).Nodup:=(T5 (l₁:= [cur]) (l₂:=pre)).nodup_iff.mp (List.nodup_cons.mpr [new:h.nd]);have O:∀x∈pre++ [cur],x∈qs.map (·.1):=λx Z=>by
  rcases Af.mp Z with Z|Z
  ·exact h.sub x Z
  ·cases Ae.mp Z;exact hc
 refine[⟨aa,h.sd.elim (λs=> .inl (s.more s1)) (λs=> .inr (s.more s2)),U,O,?_,λws ps e hr=> ?_⟩:?_]
 ·have:=h.hd;cases hp:pre with
  |nil=>rwa [hp] at this
  |cons x l=>rwa [hp] at this
 ·have:=h.rs (z::ws) (cs.length::ps) e (.more hs hP hl hk hr);have e1:(pre++ [cur]++ [z]).tail++ws=(pre++ [cur]).tail++(z::ws):=by
   cases hp:pre with
   |nil=>rfl
   |cons x l=>simp
  rw [e1,vv];exact this
 ·have:=wv U O;rw [uc,uB] at this;exact uM this hq.2.2
theorem ok_ldue (T:Tx K mg a)(C:Fx K w mg g a):#[K,18,a.f_law_due,a.d_law_due,["project","other","name"],(XJ a.qC)]:=by
 have yW:=#[ok_lstand,T,C];have kI:=#[ok_parting,T,C];have qR:=#[jG,T];exists 9,T.g_law_due,jc
 erw[h,px,px',n,qs,qs',rfl,hn,hP,hq,aw,ad,kE,kN];have hs:=uF;exists 3,%[#[qL,#[qp,#[op_eqN,1,hr.units],#[qt,yW,hr.mono (),T.g_law_standing,#v[pv 0,pv 2]],#[qt,yW,hr.mono (),T.g_law_standing,#v[pv 1,pv 2]],qB _],%[|#[qr,qW]],qx],#[qD,(3),jc.nd,#[Qw,#v[pv 2]]],#[qD,(4),jc.nd,#[Qw,qc]],#[jr,#[qp,#[op_eqA,1,hr.units],#[Qi,pv 0,T.QZ,T.g_Project_source_of,qR,#v[#[qJ,QO,pv 3,#[kT,6,Xp,qi]]]],#[Qi,pv 1,T.QZ,T.g_Project_source_of,qR,#v[#[qJ,QO,pv 3,#[kT,6,Xp,qi]]]],qB _],%[#[ps_asg,6,#[qt,kI,hr.mono (),T.g_law_parting,#v[pv 0,pv 1,#[qJ,QO,pv 3,#[kT,6,Xp,qi]]]],#[pg_tup,6,rfl,Yp #[qZ,(5),jc.nd] (Yp #[qZ,(6),jc.nd] kK),_,_],_,_,_],#[qL,#[qp,Qt,#[qJ,qI,pv 6,qi],#[Qw,#v[qk,qk]],#[w]],%[|#[qr,#[qE,#v[#[qK,qG,T.Qk,vc,#v[pv 3]],#[qK,qG,T.Qk,vc,#v[pv 4]],#[qE,#v[qk,pv 6]]]]]],qx],#[qY,#[YL,uN,vd,ve,yb,pv 3,#v[#[qJ,qI,pv 6,qi]]]]|#[qY,#[YL,uN,vd,ve,yb,pv 4,#v[pv 5]]]]]|#[qr,#[qE,#v[#[qK,qG,T.Qk,vc,#v[pv 3]],#[qK,qG,T.Qk,vc,#v[pv 4]],#[qE,#v[qk]]]]]]
 exists 8,N3,q3
 exists 5
 refine⟨0,0,px,n,qs,1,hn,hP,hq,λv3 H3 s3 i3=> ?_⟩
 exists 5
 refine⟨0,0,px',n,qs',1,hn,aw.same s3,ad,λv4 H4 ax i4=> ?_⟩;erw[std_nd hq n,c1,c2];erw[std_nd ad n,c3,c4];rw [xY] at i3 i4
 exists _,_,i3.mono ax.tk,i4,c1,c3,(),0
 have s4:Same H H4:=s3.trans ax;by_cases aa:FP qs n=FP qs' n
 ·refine iteB (by rw [aa];exact(eqNL_iff c3).mpr rfl) ?_
  exact kE aa H4 s4
 have cne:eqNL (stdL (FP qs n)) (stdL (FP qs' n))=false:=by
  cases e:eqNL (stdL (FP qs n)) (stdL (FP qs' n)) with
  |false=>rfl
  |true=>exact absurd (std_one (by rw [xY,xY,(eqNL_iff c1).mp e])) aa
 refine iteN cne (q3 _ _ ?_);exists 8,N4,q4
 exists 5
 refine[0:(sml rfl):λU h5=>q4 _ _ ?_];exists 8,N5,q5;have s5:=qf h5 (.lst [V.str n])
 exists 5
 refine[(sml rfl):λl6 h6=>q5 _ _ ?_];exists 8,N6,q6;have s6:=qf h6 (.lst ([]:oj V));have ak:U≠l6:=ql qg h6;have ay:upd (upd H4 U (.lst [V.str n])) l6 (.lst []) U=u_ (.lst (([]++ [n]:oj Str).map V.str)):=by rw [qh ak];exact qg
 have aA:upd (upd H4 U (.lst [V.str n])) l6 (.lst []) l6=u_ (.lst (([]:oj Nat).map λp:Nat=>V.int (p:Int))):=qg;have sB:=s5.trans s6;have aK:H4 U=none:=h5;have aL:H4 l6=none:=by rwa [qh ak.symm] at h6
 generalize upd (upd H4 U (.lst [V.str n])) l6 (.lst [])=HB at sB ay aA⊢;have aM:Wz qs qs' n [] n []:=⟨aa,sd_begin aa,vQ,(λx hx=>by cases hx),1,λws ps e r=>r⟩
 let J_:Nat->L2.St->Hp->Prop:=λmm σ H'=>E5 λ(pre:oj Str) (cur:Str) (pp:oj Nat) (u7:om V) (u8:om V)=>A9 (mm=60-pre.length) (σ= [u_ (.ref px),u_ (.ref px'),u_ (.str n),u_ (.ref U),u_ (.ref l6),u7,u8]) (Wz qs qs' n pre cur pp) (H' U=u_ (.lst ((pre++ [cur]).map V.str))) (H' l6=u_ (.lst (pp.map λp:Nat=>V.int (p:Int)))) (pp.length=pre.length) (Kp [U,l6] H4 H') ((∀x∈pre++ [cur],x.length<=100)) (nm cur=v_)
 have bc:=w9 hn
 exists 5
 refine⟨J_,⟨_,[],n,[],U_,U_,1,1,aM,ay,aA,1,Kp.of sB,(λx hx=>(by cases Ae.mp hx;omega)),hn⟩,?_⟩
 rintro mm σ H7 ⟨pre,cur,pp,u7,u8,rfl,rfl,hW,al,ap,aB,hK,am,aN⟩;have ao:Same H4 H7:=λb ob e=>hK.kept b ob e (λz=>by
  simp![uC,uD,uO] at z;rcases z with rfl|rfl
  ·rw [aK] at e;cases e
  ·rw [aL] at e;cases e)
 have s7:=s4.trans ao;have aq:=hP.same s7;have ae:=aw.same s7;erw[id aq,aO,bd,be,bf,hx,_];erw[id ae,aC,a8,a9,ba,aP,_];have af:H7 U=u_ (.lst (pre.map V.str++ [V.str cur])):=by rw [al,uu];rfl
 have bg:=hW.few hq
 exists 5
 refine⟨0,px,aO,0,hx,yq,0,0,U,_,_,0,1,SqL.of af,yY,px,cur,qs,1,aq,λw1 g1 g2=> ?_⟩;have aQ:Is H7 (qy qs cur) w1:=by
  by_cases c:cur∈qs.map (·.1)
  ·exact g1 c
  ·rw [g2 c,yE c];exact rfl
 exists 5
 refine⟨0,px',aC,0,aP,yq,0,0,U,_,_,0,1,SqL.of af,yY,px',cur,qs',1,ae,λw2 g3 g4=> ?_⟩;have aR:Is H7 (qy qs' cur) w2:=by
  by_cases c:cur∈qs'.map (·.1)
  ·exact g3 c
  ·rw [g4 c,yE c];exact rfl
 erw[dat_k hq.1 cur,a1,a2];erw[dat_k ad.1 cur,a3,a4]
 exists _,_,aQ,aR,a1,a3,(),0
 have out:∀(e:D) (t1 t2:o3) (ev:V) (H':Hp),Same H7 H'->H' t1=u_ (.tup ((pre++ [cur]).map V.str))->H' t2=u_ (.tup (pp.map λp:Nat=>V.int (p:Int)))->Is H' e ev->Rsn qs qs' cur [] [] e->∀t4,H' t4=U_->Q (.ref t4) (upd H' t4 (.tup [.ref t1,.ref t2,ev])):=by
  intro e t1 t2 ev H' s' h1 h2 h3 hR t4 h4;have st:=qf h4 (.tup [.ref t1,.ref t2,ev]);have hr:=hW.rs [] [] e hR;rw [uW,uW] at hr;refine kN aa _ _ _ _ e ((s7.trans s').trans st) hr (by have:=hW.few hq;rw [Fq,uB];show pre.length+1-1<=60;omega) (by have:=hW.few hq;omega) ?_
  unfold rsnD;rw [hd_tl hW.hd];exact Is.new ⟨_,0,⟨t1,0,h1,ZC am⟩,_,0,⟨t2,0,h2,ints_is pp⟩,_,0,h3,1⟩ h4
 by_cases ac:qy qs cur=qy qs' cur;rotate_left
 ·have en:eqN (qy qs cur) (qy qs' cur)=false:=by
   cases e:eqN (qy qs cur) (qy qs' cur) with
   |false=>rfl
   |true=>exact absurd ((jA (kD_n a1)).mp e) ac
  refine iteN en (q6 _ _ ?_)
  exists 5
  refine⟨0,U,0,.inl [SqL.of al:λt1 h1=> ?_]⟩;have m1:=qf h1 (.tup ((pre++ [cur]).map V.str))
  exists 5
  refine⟨0,l6,0,.inl [SqL.of (m1 _ _ ap):λt2 h2=> ?_]⟩;have m2:=qf h2 (.tup (pp.map λp:Nat=>V.int (p:Int)))
  exists 5
  refine[(sml rfl):λt3 h3=> ?_];have m3:=qf h3 (.tup [V.str "source"])
  exists 5
  refine[(sml rfl):λt4 h4=> ?_];exact out _ t1 t2 (.ref t3) _ ((m1.trans m2).trans m3) (m3 _ _ (m2 _ _ qg)) (m3 _ _ qg) (Is.new (ds:= [.str "source"]) ⟨_,0,yl (),1⟩ h3) (.src ac) t4 h4
 refine iteB (by rw [ac];exact(jA (kD_n a3)).mpr rfl) ?_
 erw[turn hq ad ac hW.ne,gg,cs,lx,ly,kd,z,an,rr,t1,t2,tP,t3,t4,t5,t6,th,t7]
 exists λσ' H'=>∃m',m'<60-pre.length/\J_ m' σ' H',λ_ _ h=>h;exists 8,B1,p1
 exists 5
 refine⟨0,0,0,0,U,_,_,0,1,SqL.of af,yY,px,px',cur,qs,qs',gg,cs,lx,ly,kd,z,1,aN,aq,hq,ae,ad,t1,t2,t3,t4,t5,th.1,th.2,λv8 H8 s8 i8=> ?_⟩;erw[i8,q8,w8,rfl,aS,x8,r8,rfl,aT,x9,r9,rfl,aU,h9];cases(show r9= [] from h9)
 cases(show x8= .int (cs.length:Int) from aT)
 erw[aU,q5,w5,rfl,aD,x5,r5,rfl,[rfl,aV],x6,r6,rfl,[rfl,aW],aX];cases(show r6= [] from aX)
 exists q8,0,SqT.of aS,1
 exists 5
 refine⟨_,0,_,0,1,p1 _ _ ?_⟩;exists 8,B5,p5
 exists 5
 refine⟨0,q5,_,_,0,1,SqT.of aD,1,(sml rfl),λt8 h8=> ?_⟩;have au:=qf h8 (.lst [V.str "has",V.str "names"])
 exists t8,0,.inl (SqL.of qg),1,1,0;have ag:=au _ _ aD;have O:=s8.trans au;generalize upd H8 t8 (.lst [V.str "has",V.str "names"])=aE at au ag O⊢;rcases t7 with hk|⟨hk,aY,aZ,a5,a6,bh⟩
 ·refine iteB ((inHN kd).trans hk) ?_;have Z:=O _ _ al
  exists 5
  refine⟨0,U,0,.inl [SqL.of Z:λy1 e1=> ?_]⟩;have m1:=qf e1 (.tup ((pre++ [cur]).map V.str))
  exists 5
  refine⟨0,l6,0,.inl [SqL.of (m1 _ _ (O _ _ ap)):λy2 e2=> ?_]⟩;have m2:=qf e2 (.tup (pp.map λp:Nat=>V.int (p:Int)))
  exists 5
  refine[0:(sml rfl):λy3 e3=> ?_];have m3:=qf e3 (.tup [V.str "ask",V.ref q5])
  exists 5
  refine[(sml rfl):λy4 e4=> ?_];have aF:=m1.trans m2;have aG:Is (upd (upd aE y1 (.tup ((pre++ [cur]).map V.str))) y2 (.tup (pp.map λp:Nat=>V.int (p:Int)))) (.tup [.str kd,.str z]) (.ref q5):=⟨q5,0,aF _ _ ag,_,0,[1:aV],_,0,[1:aW],1⟩;exact out _ y1 y2 (.ref y3) _ ((O.trans aF).trans m3) (m3 _ _ (m2 _ _ qg)) (m3 _ _ qg) (Is.new (ds:= [.str "ask",.tup [.str kd,.str z]]) ⟨_,0,yl (),_,0,aG,1⟩ e3) (.ask ac tP t6 hk) y4 e4
 ·refine iteN ((inHN kd).trans hk) (p5 _ _ ?_);exists 8,B6,p6;erw[hW.more hq ac t1 tP t6 hk aY aZ a5,a7,bb];have aH:=O _ _ ap;have Z:=O _ _ al
  exists 5
  refine⟨0,.inl [1:_:SqL.of Z],0,q5,_,_,0,1,SqT.of ag,1,U,_,0,1,Z,(by rw [uc,uB,vq];omega),p6 _ _ ?_⟩
  have ah:upd aE U (.lst (((pre++ [cur]).map V.str)++ [V.str z])) l6=u_ (.lst (pp.map λp:Nat=>V.int (p:Int))):=by rwa [qh ak.symm]
  exists 5
  refine⟨0,.inl [1:_:SqL.of ah],0,l6,_,0,1,ah,(by rw [uc,aB];omega),?_⟩
  have aI:nm z=true:=by
   erw[a6,k,e1,e2];exact(jj (itP_gi hq t1 k).1 e1 e2).1
  have bo:=w9 aI;have aJ:(pre++ [cur]).length=pre.length+1:=by rw [uB];rfl
  exists 5
  refine⟨60-(pre++ [cur]).length,(),pre++ [cur],z,pp++ [cs.length],_,0,1,a7,?_,?_,?_,?_,?_,aI⟩
  ·rw [qh ak,qg,uu (l₁:=pre++ [cur])]
   rfl
  ·rw [qg,uu]
   rfl
  ·rw [uB,aJ,aB]
   rfl
  ·exists 5
   refine[λb ob e hb=> ?_:((hK.tk.trans O.tk).trans (Tk.updL Z)).trans (Tk.updL ah)];simp![uC,uD,uO,V3] at hb;rw [qh hb.2,qh hb.1];exact O b ob (ao b ob e)
  ·intro x hx;rcases Af.mp hx with hx|hx
   ·exact am x hx
   ·cases Ae.mp hx;omega
def nuD (d:D):Prop:=d= .non∨∃xs,d= .tup xs/\nL xs=v_
inductive rNeB (x:V) (y:V) (H:Hp) (Q:VK):Prop
 |mk (d:D) (_:Is H d x) (_:Is H d y) (_:nuD d) (_:dp d<=60) (_:Q (.bl V9) H)
variable {X:Cx}
theorem op_neB (Z:X.A.units+64<Vj):OpR X (Vm .NotEq) rNeB:=by
 intro oq s σ H x y v u Q I O U h;erw[h,d,h1,h2,k1,hd,q];rcases k1 with rfl|⟨xs,rfl,k1⟩
 ·cases(show x= .non from h1)
  cases(show y= .non from h2)
  exact op_ne oq s σ H .non .non v u Q I O U ⟨1,by simpa using q⟩
 ·refine op_neTN Z oq s σ H x y v u Q I O U ⟨xs,xs,h1,h2,k1,k1,?_,by rwa [(eqNL_iff k1).mpr rfl]⟩
  have:dp (.tup xs)=1+dpL xs:=by simp![dp]
  omega
theorem rsn_nd {n:Str}{ps:oj Nat}(h:Rsn qs qs' n ws ps e):nD e=v_/\dp e<=5:=by
 induction h with
 |src _=>exact⟨1,by simp [dp,dpL]⟩
 |ask _ _ _ _=>exact⟨1,by simp [dp,dpL]⟩
 |more _ _ _ _ _ O=>exact O
theorem nL_strs:∀zs:oj Str,nL (zs.map D.str)=v_/\dpL (zs.map D.str)<=1
 | []=>⟨1,by simp [dpL]⟩
 |z::r=>by
  erw[nL_strs r,h1,h2];exact⟨by simp![ui,nL,nD,h1,V7],by simp![ui,dpL,dp];omega⟩
theorem nL_ints:∀ps:oj Nat,nL (ps.map λp:Nat=>D.int (p:Int))=v_/\dpL (ps.map λp:Nat=>D.int (p:Int))<=1
 | []=>⟨1,by simp [dpL]⟩
 |z::r=>by
  erw[nL_ints r,h1,h2];exact⟨by simp![ui,nL,nD,h1,V7],by simp![ui,dpL,dp];omega⟩
theorem rsnD_nu {n:Str}{ps:oj Nat}(h:Rsn qs qs' n ws ps e):nuD (rsnD n ws ps e)/\dp (rsnD n ws ps e)<=60:=by
 erw[rsn_nd h,h1,h2];erw[nL_strs (n::ws),h3,h4];erw[nL_ints ps,h5,h6];refine[.inr [0:?_]:?_]
 ·simp![nL,nD,h1,h3,h5,V7]
 ·unfold rsnD;simp![dp,dpL];omega
theorem it_of {h:Nat}{g:Gp}(O:((SyP qs).said (Sy.it (SyP qs) (Sy.Fh (SyP qs) h) 302 g)).isSome=v_):itP qs 302 g=Sy.it (SyP qs) (Sy.Fh (SyP qs) h) 302 g:=by
 erw[Option.isSome_iff_exists.mp O,v,U];exact Sy.kP (QI qs) (λm a e=>(Sy.Ko (QI qs)).mpr [h:e]) U
def ck1 (qs:oj (Str×D))(h:Nat)(g:Gp)(m:Str)(x:D):Bool:=((SyP qs).said (Sy.it (SyP qs) (Sy.Fh (SyP qs) h) 302 g)).isSome&&(nL (QA (Sy.it (SyP qs) (Sy.Fh (SyP qs) h) 302 g))&&eqNL (QA (Sy.it (SyP qs) (Sy.Fh (SyP qs) h) 302 g)) [.tup [.tup [.str "thing",.str m],x]])
theorem ck1_ok {h:Nat}{g:Gp}{x:D}(c:ck1 qs h g m x=v_):QA (itP qs 302 g)= [.tup [.tup [.str "thing",.str m],x]]:=by
 unfold ck1 at c;rw [uw,uw] at c;rw [it_of c.1];exact(eqNL_iff c.2.1).mp c.2.2
def ckR (qs qs':oj (Str×D))(h:Nat)(x y:D)(n m:Str):Bool:=nD (qy qs n)&&(eqN (qy qs n) (qy qs' n)&&match g0D n (qy qs n) with
 |some g=>ck1 qs h g m x&&ck1 qs' h g m y
 |none=>V9)
theorem ckR_ok {h:Nat}{x y:D}{n:Str}{ps:oj Nat}(aa:x≠y)(c:ckR qs qs' h x y n m=v_)(r:Rsn qs qs' m ws ps e):Rsn qs qs' n (m::ws) (0::ps) e:=by
 unfold ckR at c;rw [uw,uw] at c;erw[c,c1,c2,O];have U:=(jA c1).mp c2;cases Z:g0D n (qy qs n) with
 |none=>rw [Z] at O;cases O
 |some g=>
  rw [Z] at O;rw [uw] at O;refine .more (cs:= []) (kd:="thing") (a:=x) U ⟨g,Z,by rwa [<-U],ck1_ok O.1,ck1_ok O.2,?_⟩ rfl () r
  intro z;injection z with z _
  injection z with z
  injection z with _ z
  injection z with z _
  exact aa z
def strI (i:Int):Str:=Vk i
def tK (k:Nat):Str:="t"++strI (k:Int)
def tX (k:Nat):Str:="text a t"++strI ((k:Int)+1)
def rK (k:Nat):D:= .tup [.str "rule",.tup [.str (tX k),.str "ask b a",.str "say b"]]
def chP (m:Nat)(tr:D)(i:Nat):oj (Str×D):=(tK (m-1),.tup [.str "leaf",tr])::(Vh i).map λk=>(tK k,rK k)
def TrX (tr:D):Prop:=tr= .str "x"∨tr= .tup [.str "x"]
theorem rK_ok:∀k:Nat,k<20->Km (rK k)=v_/\lw (rK k)=v_/\sz (rK k)<=306/\(tK k).length<=4/\(tX k).length<=20/\(strI (k:Int)).length<=4:=by decide+kernel
theorem nm_2:Nms ((chP 2 .non 1).map (·.1)):=[():()]
theorem nm_20:Nms ((chP 20 .non 19).map (·.1)):=[():()]
theorem chP_keys (m:Nat)(tr:D)(i:Nat):(chP m tr i).map (·.1)=(chP m .non i).map (·.1):=rfl
variable {tr:D}
theorem lf_ok (h:TrX tr):Zq (.tup [.str "leaf",tr]):=by
 rcases h with rfl|rfl
 ·exact⟨[_:0],(),(),()⟩
 ·exact⟨[_:0],(),(),()⟩
theorem chP_ok {m:Nat}(hm:m=2∨m=20)(h:TrX tr):PrOk (chP m tr (m-1)):=by
 refine[?_:λp O=> ?_]
 ·rw [chP_keys];rcases hm with rfl|rfl
  ·exact nm_2
  ·exact nm_20
 ·rcases Ac.mp O with rfl|O
  ·exact lf_ok h
  ·erw[Ag.mp O,k,U,rfl];obtain⟨h1,h2,h3,_⟩:=rK_ok k (by have:=List.mem_range.mp U;omega)
   exact⟨[_:0],h1,h2,h3⟩
inductive sp_chain (C:Addr) (vs:List V) (H:Hp) (Q:VK) (E_:XK):Prop
 |mk (m:Nat) (tv:V) (tr:D) (_:vs= [.int (m:Int),tv]) (_:m=2∨m=20) (_:TrX tr) (_:Is H tr tv) (_:∀(x:Addr) (qs:List (Str×D)) (H':Hp),Same H H'->Q5 C H' x qs->Qn qs->qs.Perm (chP m tr (m-1))->Q (.ref x) H')
theorem ok_chain (T:Tx K mg a):#[K,6,a.ZK,a.wk,["many","tree"],(sp_chain a.qC)]:=by
 have yZ:=#[ok_init,T];exists 9,T.g_law_chain,Ja
 erw[h,m,tv,tr,rfl,hm,af,hv,k];have hs:=uF;have am:2<=m/\m<=20:=by omega
 have e0:(m:Int)-1=((m-1:Nat):Int):=by omega
 have O:∀i:Int,0<=i->i<=100->i.natAbs.log2<1920:=λi h1 h2=>U6 (UI _) ()
 exists 3,%[#[qD,(2),Ja.nd,#[Qw,#v[#[qE,#v[#[qV,Qd,qk,#[qK,Q0,T.JU,Uh,#v[#[qV,op_sub,pv 0,qi]]]],#[qE,#v[qk,pv 1]]]]]]],#[jf,#[yf,#v[#[qV,op_sub,pv 0,qi]]],#[qZ,(3),Ja.nd],%[|#[qY,#[YL,uN,vd,ve,yb,pv 2,#v[#[qE,#v[#[qV,Qd,qk,#[qK,Q0,T.JU,Uh,#v[pv 3]]],#[qE,#v[qk,#[qE,#v[#[qV,Qd,qk,#[qK,Q0,T.JU,Uh,#v[#[qV,QY,pv 3,qi]]]],qk,qk]]]]]]]]]]]|#[qr,#[zt,T.Wb,yZ,hr.mono (),T.ZM,T.g_Project_init,qA,#v[#[qK,qG,T.Qk,vc,#v[pv 2]]]]]]
 exists 8,N1,q1
 exists 0,_,0,1;rw [e0];have aa:=rK_ok (m-1) ()
 exists 5
 refine⟨0,O _ () (),_,0,1,(by have:=aa.2.2.2.2.2;show 1+(strI ((m-1:Nat):Int)).length<=Vb;omega),?_⟩
 exists 5
 refine[0:(sml rfl):λt1 h1=>[(sml rfl):λt2 h2=>[(sml rfl):λL hL=>q1 _ _ ?_]]];have m1:=qf h1 (.tup [.str "leaf",tv]);have i1:Is (upd H t1 (.tup [.str "leaf",tv])) (.tup [.str "leaf",tr]) (.ref t1):=Is.new (ds:= [.str "leaf",tr]) ⟨_,0,yl (),_,0,hv,1⟩ h1
 have m2:=qf h2 (.tup [.str (tK (m-1)),.ref t1]);have i2:Is (upd (upd H t1 (.tup [.str "leaf",tv])) t2 (.tup [.str (tK (m-1)),.ref t1])) (prD (tK (m-1),.tup [.str "leaf",tr])) (.ref t2):=Is.new (ds:= [.str (tK (m-1)),.tup [.str "leaf",tr]]) ⟨_,0,⟨1,fits (by have:=aa.2.2.2.1;omega)⟩,_,0,i1,1⟩ h2
 have s2:=m1.trans m2;have m3:=qf hL (.lst [V.ref t2]);have ac:upd (upd (upd H t1 (.tup [.str "leaf",tv])) t2 (.tup [.str (tK (m-1)),.ref t1])) L (.lst [V.ref t2]) L=u_ (.lst [V.ref t2]):=qg;have s3:Same H (upd (upd (upd H t1 (.tup [.str "leaf",tv])) t2 (.tup [.str (tK (m-1)),.ref t1])) L (.lst [V.ref t2])):=s2.trans m3;have i3:Is (upd (upd (upd H t1 (.tup [.str "leaf",tv])) t2 (.tup [.str (tK (m-1)),.ref t1])) L (.lst [V.ref t2])) (prD (tK (m-1),.tup [.str "leaf",tr])) (.ref t2):=i2.mono m3.tk;have ag:H L=none:=s2.free hL;show tSeq _ _ _ _ (upd (upd (upd H t1 (.tup [.str "leaf",tv])) t2 (.tup [.str (tK (m-1)),.ref t1])) L (.lst [V.ref t2]));generalize upd (upd (upd H t1 (.tup [.str "leaf",tv])) t2 (.tup [.str (tK (m-1)),.ref t1])) L (.lst [V.ref t2])=HB at ac s3 i3⊢;exists 8,N2,q2
 exists 0,_,0,1,0,(),()
 rw [show((m:Int)-1).toNat=m-1 by omega]
 let J_:Nat->L2.St->Hp->Prop:=λi σ H'=>E2 λ(us:oj V) (x3:om V)=>A4 (σ= [u_ (.int (m:Int)),u_ tv,u_ (.ref L),x3]) (Same H H') (H' L=u_ (.lst us)) (L2.IsL H' ((chP m tr i).map prD) us)
 refine ja (lo:=0) J_ ⟨[V.ref t2],U_,1,s3,ac,L2.IsL.one i3⟩ ?_ ?_
 ·rintro i σ H4 hi ⟨us,x3,rfl,s4,eL,iu⟩;have hk:=rK_ok i ()
  have ah:=rK_ok (i+1) ()
  have ei:(0:Int)+(i:Int)=(i:Int):=by omega
  have ak:=iu.length;rw [uc] at ak;have ao:(chP m tr i).length=i+1:=by unfold chP;rw [um,uc,Tj]
  exists 0,.inl [1:_:SqL.of eL];rw [ei]
  exists 5
  refine⟨0,0,O _ () (),_,0,1,(by have:=hk.2.2.2.2.2;show 1+(strI (i:Int)).length<=Vb;omega),?_⟩
  exists 5
  refine⟨0,_,0,1,0,O _ () (),_,0,1,(by have:=ah.2.2.2.2.2;show 8+(strI ((i:Int)+1)).length<=Vb;rw [show((i:Int)+1)=((i+1:Nat):Int) by omega];omega),?_⟩
  exists 5
  refine[(sml rfl):λt4 h4=>[(sml rfl):λt5 h5=>[(sml rfl):λt6 h6=> ?_]]];have n4:=qf h4 (.tup [.str (tX i),.str "ask b a",.str "say b"]);have j4:=Is.new (H:=H4) (ds:= [.str (tX i),.str "ask b a",.str "say b"]) ⟨_,0,⟨1,fits (by have:=hk.2.2.2.2.1;omega)⟩,_,0,yl (),_,0,yl (),1⟩ h4
  have n5:=qf h5 (.tup [.str "rule",.ref t4]);have j5:=Is.new (ds:= [.str "rule",.tup [.str (tX i),.str "ask b a",.str "say b"]]) ⟨_,0,yl (),_,0,j4,1⟩ h5
  have n6:=qf h6 (.tup [.str (tK i),.ref t5]);have j6:Is _ (prD (tK i,rK i)) (.ref t6):=Is.new (ds:= [.str (tK i),rK i]) ⟨_,0,⟨1,fits (by have:=hk.2.2.2.1;omega)⟩,_,0,j5,1⟩ h6
  have U:=(n4.trans n5).trans n6;have ad:=U _ _ eL
  exists L,us,0,1,ad,()
  have tk:=Tk.updL (ys:=us++ [.ref t6]) ad
  exists 5
  refine⟨us++ [.ref t6],0,λb o e=> ?_,qg,?_⟩
  ·rw [qh (ql e ag)];exact U _ _ (s4 _ _ e)
  ·have e7:chP m tr (i+1)=chP m tr i++ [(tK i,rK i)]:=by unfold chP;rw [Hu,uu];rfl
   rw [e7,uu];exact((iu.mono U.tk).mono tk).append (L2.IsL.one (j6.mono tk))
 ·rintro σ H4 ⟨us,x3,rfl,s4,eL,iu⟩;refine q2 _ _ ?_
  exists 5
  refine⟨0,L,us,1,.inl [SqL.of eL:λt ht=> ?_]⟩;have m1:=qf ht (.tup us);intro x dx nx al ap;have m2:Same (upd H4 t (.tup us)) (upd (upd (upd H4 t (.tup us)) dx (.own x)) x (.ins a.qC dx [])):=λb ob e=>by
   rwa [qh (ql e nx),qh (ql e al)]
  have ae:=m1.trans m2
  exists 5
  refine⟨x,dx,t,chP m tr (m-1),us,1,qg,m2 _ _ qg,iu.mono ae.tk,chP_ok hm af,?_,λqs H5 keep hP hT Z=>[1:?_]⟩
  ·unfold chP;rw [um,uc,Tj];omega
  ·exact k x qs H5 (s4.trans λb ob e=>keep b ob (ae _ _ e) (ql (m1 _ _ e) nx)) hP hT Z
def sN (m:Nat):oj Str:=(if m=2 then [0,1] else [0,1,10,11,12,13,14,15,16,17,18,19,2,3,4,5,6,7,8,9]).map tK
def chQ (m:Nat)(tr:D):oj (Str×D):=tabOf (chP m tr (m-1)) (sN m)
theorem sN_ok {m:Nat}(hm:m=2∨m=20):GB (sN m)=v_/\(sN m).Perm ((chP m .non (m-1)).map (·.1)):=by
 rcases hm with rfl|rfl
 ·exact[():()]
 ·exact[():()]
theorem chQ_eq {m:Nat}(hm:m=2∨m=20)(O:TrX tr)(Z:Qn qs)(U:qs.Perm (chP m tr (m-1))):qs=chQ m tr:=by
 have hn:=(chP_ok hm O).1.2;erw[sN_ok hm,h1,h2];have hk:qs.map (·.1)=sN m:=sorted_one Z.2.1 h1 ((U.map _).trans h2.symm);rw [<-re_map Z.1.1.2];unfold chQ tabOf;rw [hk];refine vO λz hz=> ?_;rw [dat_perm hn U (by rw [<-hk] at hz;exact((U.map _).mem_iff).mp hz)]
abbrev trX:D:= .str "x"
abbrev trY:D:= .tup [.str "x"]
def ckE (m:Nat):Bool:=(Vh (m-1)).all (λk=>ckR (chQ m trX) (chQ m trY) 21 trX trY (tK k) (tK (k+1)))&&(!eqN (qy (chQ m trX) (tK (m-1))) (qy (chQ m trY) (tK (m-1)))&&nD (qy (chQ m trX) (tK (m-1))))
theorem ckE_ok {m:Nat}(hm:m=2∨m=20):ckE m=true:=by
 rcases hm with rfl|rfl
 ·decide+kernel
 ·decide+kernel
def isV (a:om (om D))(d:D):Bool:=match a with
 |some (u_ e)=>eqN d e
 |_=>V9
def ckF (m:Nat):Bool:=isV (Sy.Fh (SyP (chQ m trX)) 21 (tK 0)) trX&&isV (Sy.Fh (SyP (chQ m trY)) 21 (tK 0)) trY
theorem ckF_ok {m:Nat}(hm:m=2∨m=20):ckF m=true:=by
 rcases hm with rfl|rfl
 ·decide+kernel
 ·decide+kernel
theorem isV_ok {a:om (om D)}{d:D}(h:nD d=v_)(e:isV a d=v_):a=u_ (u_ d):=by
 cases a with
 |none=>cases e
 |some a=>
  cases a with
  |none=>cases e
  |some b=>rw [(jA h).mp e]
theorem ch_ne {m:Nat}(hm:m=2∨m=20):FP (chQ m trX) (tK 0)≠FP (chQ m trY) (tK 0):=by
 have h:=ckF_ok hm;unfold ckF at h;rw [uw] at h;show Sy.F _ _≠Sy.F _ _;rw [Sy.F_of (QI _) (isV_ok rfl h.1),Sy.F_of (QI _) (isV_ok rfl h.2)];intro z;cases z
theorem ch_up {q U:oj (Str×D)}{n:Nat}{x y e:D}(O:x≠y)(c:∀k,k<n->ckR q U 21 x y (tK k) (tK (k+1))=v_)(r:Rsn q U (tK n) [] [] e):∀j,j<=n->Rsn q U (tK (n-j)) ((Vh j).map λi=>tK (n-j+i+1)) (Vl j 0) e
 |0,_=>r
 |j+1,h=>by
  have Z:=ch_up O c r j ()
  have e1:n-(j+1)+1=n-j:=by omega
  have:=ckR_ok O (c (n-(j+1)) ()) (by rwa [e1])
  rw [vZ,ui,uL];refine cast (congrArg (λws=>Rsn q U (tK (n-(j+1))) ws (0::Vl j 0) e) ?_) this;refine congrArg (_:: ·) (vO λi _=> ?_);exact congrArg tK (by show n-j+i+1=n-(j+1)+(i+1)+1;omega)
theorem ch_rsn {m:Nat}(hm:m=2∨m=20):Rsn (chQ m trX) (chQ m trY) (tK 0) ((Vh (m-1)).map λi=>tK (i+1)) (Vl (m-1) 0) (.tup [.str "source"]):=by
 have h:=ckE_ok hm;unfold ckE at h;rw [uw,uw,U4] at h;erw[h,h1,h2,h3];have hd:qy (chQ m trX) (tK (m-1))≠qy (chQ m trY) (tK (m-1)):=λz=>by
  rw [(jA h3).mpr z] at h2;cases h2
 have:=ch_up (x:=trX) (y:=trY) (λz=>by cases z) (λk O=>h1 k (List.mem_range.mpr O)) (Rsn.src hd) (m-1) (uj _)
 simpa only [GX,GW] using this
theorem ch_due {m:Nat}(hm:m=2∨m=20):rsnD (tK 0) ((Vh (m-1)).map λi=>tK (i+1)) (Vl (m-1) 0) (.tup [.str "source"])= .tup [.tup (((Vh m).map tK).map D.str),.tup (Vl (m-1) (.int 0)),.tup [.str "source"]]:=by
 obtain⟨n,rfl⟩:∃n,m=n+1:=[m-1:()]
 unfold rsnD;rw [Nat.add_sub_cancel,vZ,List.map_replicate];simp![ui,uL]
 rfl
def DueIs (qs qs':oj (Str×D))(n:Str)(dd:D):Prop:=(FP qs n=FP qs' n/\dd= .non)∨(FP qs n≠FP qs' n/\∃ws ps e,Rsn qs qs' n ws ps e/\dd=rsnD n ws ps e)
theorem DueIs.nu {n:Str}{dd:D}(h:DueIs qs qs' n dd):nuD dd/\dp dd<=60:=by
 rcases h with⟨_,rfl⟩|⟨_,ws,ps,e,O,rfl⟩
 ·exact⟨.inl rfl,by simp [dp]⟩
 ·exact rsnD_nu O
theorem DueIs.one {n:Str}{d:D}(h:DueIs qs qs' n d)(k:DueIs qs qs' n e):d=e:=by
 rcases h with⟨h,rfl⟩|⟨h,ws,ps,e1,U,rfl⟩
 ·rcases k with⟨_,rfl⟩|⟨k,_⟩
  ·rfl
  ·exact absurd h k
 ·rcases k with⟨k,_⟩|⟨_,Z,aa,e',O,rfl⟩
  ·exact absurd k h
  ·erw[U.one O,rfl,rfl,rfl]
   rfl
theorem due_sp {n:Str}{px px':o3}{E:XK}(hn:nm n=v_)(Z:Q5 CP H px qs)(hq:Qn qs)(O:Q5 CP H px' qs')(U:Qn qs')(k:∀v dd H',Same H H'->DueIs qs qs' n dd->Is H' dd v->Q v H'):XJ CP [.ref px,.ref px',.str n] H Q E:=
 ⟨px,px',n,qs,qs',1,hn,Z,hq,O,U,λe H' s=>k .non .non H' s (.inl [e:1]) rfl,λe v H' ws ps ee s hR _ _ hv=>k v _ H' s (.inr ⟨e,ws,ps,ee,hR,1⟩) hv⟩
theorem is_non {d:D}(h:Is H d v)(h':Is H' d u)(k:nuD d):decide (v=V.non)=decide (u=V.non):=by
 rcases k with rfl|⟨xs,rfl,_⟩
 ·cases(show v= .non from h)
  cases(show u= .non from h')
  rfl
 ·erw[h,t,vs,rfl,_];erw[h',t',O,rfl,_];rw [uh (λz=>by cases z),uh (λz=>by cases z)]
theorem many_ok (c:Int):∃m:Nat,2+c%8/7*18=(m:Int)/\(m=2∨m=20):=[(2+c%8/7*18).toNat:():()]
def NNd:D:= .tup [.str "rule",.tup [.str "text a b",.str "names b a",.str "say b"]]
def NNp:Str×D:=("nn",NNd)
theorem nn_ok:Zq NNd:=⟨[_:0],(),(),()⟩
theorem nn_n8:∀z∈N8,z≠"nn":=by decide+kernel
theorem nz_nm:nm "nn"=v_/\nm "zz"=v_/\nm "t0"=v_/\tK 0="t0":=by decide+kernel
theorem nn_pr {ps:oj (Str×D)}(h:PrOk ps)(h8:∀p∈ps,p.1∈N8):PrOk (ps++ [NNp]):=by
 refine[[λz U=> ?_:?_]:λp O=> ?_]
 ·rw [uu] at U;rcases Af.mp U with U|U
  ·exact h.1.1 z U
  ·cases Ae.mp U;exact nz_nm.1
 ·rw [uu,To];refine⟨h.1.2,by simp,λx Z y hy e=> ?_⟩
  cases Ae.mp hy;erw[Ag.mp Z,p,O,rfl];exact nn_n8 _ (h8 p O) e
 ·rcases Af.mp O with O|O
  ·exact h.2 p O
  ·cases Ae.mp O;exact nn_ok
def dueC (m:Nat):D:= .tup [.tup (((Vh m).map tK).map D.str),.tup (Vl (m-1) (.int 0)),.tup [.str "source"]]
theorem reps {H:Hp}:∀n:Nat,L2.IsL H (Vl n (D.int 0)) (Vl n (V.int 0))
 |0=>rfl
 |n+1=>⟨_,0,1,reps n⟩
variable {p:o3}
theorem prs_ne {L:o3}{rs:oj (Str×D)}{vs:oj V}(U:PotQ H p)(O:H L=u_ (.lst vs))(h:L2.IsL H (rs.map prD) vs):L≠p:=by
 intro z;subst z;erw[U,x,Z,_];rw [Z] at O;cases O;cases rs with
 |nil=>cases h
 |cons r rs=>
  erw[h,u,w,e,h1,_];cases e;erw[h1,t,vs,e,_];cases e
inductive sp_law (K:PySem.W.Frag) (vs:List V) (H:Hp) (Q:VK) (E_:XK):Prop
 |mk (a:Addr) (ns:List Int) (_:vs= [.ref a]) (_:SqL K H a (ns.map V.int)) (_:ns.length<=63) (_:∀H',Q (.bl v_) H')
theorem ok_law (T:Tx K mg a)(C:Fx K w mg g a):#[K,19,a.f_law,a.d_law,["script"],(sp_law K)]:=by
 have jE:=#[ok_cell,T];have wG:=#[ok_potQ,T];have Kx:=#[ok_lsrcs,T];have yZ:=#[ok_init,T];have kJ:=#[ok_changed,T];have wL:=#[ok_chain,T];have kY:=#[ok_reason,T,C];have aa:=#[ok_stands,T,C];have yW:=#[ok_lstand,T,C];have U:=#[ok_ldue,T,C];refine T.g_law.F.ok YO () (λ_ _ _ _ H vs Q E O h=> ?_)
 erw[h,q,ns,rfl,hq,bG,k];have hs:=uF;erw[many_ok ns.sum,m,hm,Z];have bC:2<=m/\m<=20:=by omega
 have al:∀i:Int,0<=i->i<=100->i.natAbs.log2<1920:=λi h1 h2=>U6 (UI _) ()
 exists 3,%[#[qD,(1),YO.nd,#[qV,QY,qi,#[qV,kn,#[qV,op_fdiv,#[qV,zN,#[qz,#[ZO,1,rfl],T.z_sum,Te,#v[pv 0]],qi],qi],qi]]],#[qD,(2),YO.nd,#[qE,#v[#[qK,qG,T.Qk,vc,#v[#[Zm,["k"],[],lcs0,#[yf,#v[pv 1]],(λ_ _ _ _ _ _=>#[qZ,(0),(show Vz (["k"]:oj Str) by decide+kernel)]),(λ_ _ _ _ _ _=>#[qV,Qd,qk,#[qK,Q0,T.JU,Uh,#v[pv 0]]])]]],#[qV,op_repG,#[qE,#v[qi]],#[qV,op_sub,pv 1,qi]],#[qE,#v[qk]]]]],#[qL,#[qp,op_neB O.units,#[qt,kY,O.mono (),T.g_reason,#v[#[qt,wL,O.mono (),T.g_law_chain,#v[pv 1,qk]],#[qt,wL,O.mono (),T.g_law_chain,#v[pv 1,#[qE,#v[qk]]]],qk]],pv 2,qB _],%[|#[qr,Jh]],qx],#[qD,(3),YO.nd,#[YR,sl_list,#[Qw,#v[qk,qk,qk,qk,qk,qk,qk,qk]],zw,#[YJ,#[qV,QY,qi,#[qV,zN,#[qt,jE,O.mono (),T.g_law_cell_at,#v[pv 0,qi]],qi]]]]],#[qD,(4),YO.nd,#[qV,op_cat,#[qt,Kx,O.mono (),T.g_law_sources,#v[pv 0]],#[Qw,#v[#[qE,#v[qk,#[qE,#v[qk,#[qE,#v[qk,qk,qk]]]]]]]]]],#[qD,(5),YO.nd,#[qt,wG,O.mono (),T.g_law_pot,#v[#[qV,QY,#[qz,#[ZO,1,rfl],T.z_sum,Te,#v[pv 0]],qi],qi]]],#[jf,#[yf,#v[qi]],#[qZ,(6),YO.nd],%[#[qD,(7),YO.nd,#[qt,kJ,O.mono (),T.g_law_changed,#v[pv 4,pv 5,pv 3]]],#[qD,(8),YO.nd,#[zt,T.Wb,yZ,O.mono (),T.ZM,T.g_Project_init,qA,#v[#[qK,qG,T.Qk,vc,#v[pv 4]]]]],#[qD,(9),YO.nd,#[zt,T.Wb,yZ,O.mono (),T.ZM,T.g_Project_init,qA,#v[#[qK,qG,T.Qk,vc,#v[pv 7]]]]],#[jf,#[pi_list,4,#[qV,op_cat,pv 3,#[Qw,#v[qk,qk]]]],#[qZ,(10),YO.nd],%[#[qL,#[qp,#[op_neTN,1,O.units],#[qt,aa,O.mono (),T.g_stands,#v[pv 8,pv 10]],#[qt,yW,O.mono (),T.g_law_standing,#v[pv 8,pv 10]],qB _],%[|#[qr,Jh]],qx],#[qD,(2),YO.nd,#[qt,U,O.mono (),T.g_law_due,#v[pv 8,pv 9,pv 10]]],#[qD,(11),YO.nd,#[qt,kY,O.mono (),T.g_reason,#v[pv 8,pv 9,pv 10]]],@qL _ _ _ _ _ _ _ _ #[zp,#[qp,op_ne,#[yJ,Yb,pv 11,qW,qB _],#[yJ,Yb,pv 2,qW,qB _],qB _],#[xa,#[qp,op_neB O.units,pv 11,pv 2,qB _]]].pt %[|#[qr,Jh]] qx|@qL _ _ _ _ _ _ _ _ #[pw_and,7,#[qp,QF,pv 6,qi,qB _],#[pw_and1,4,#[qp,Ki,#[qt,kY,O.mono (),T.g_reason,#v[pv 8,pv 8,pv 10]],qW,qB _]]].pt %[|#[qr,Jh]] qx]]|#[qD,(4),YO.nd,pv 7]]]|#[qr,Jh]]
 exists 8,N1,q1
 exists 5
 refine⟨0,q,ns,1,hq,_,0,1,(by show(0:Int)<8;decide),_,0,1,[():()],_,0,1,.inr [():()],_,0,1,?_⟩
 try dsimp only
 rw [hm];refine q1 _ _ ?_;exists 8,N2,q2;have ba:∀(dv:V) (H1:Hp),Same H H1->Is H1 (dueC m) dv->N2 [u_ (.ref q),u_ (.int (m:Int)),u_ dv,U_,U_,U_,U_,U_,U_,U_,U_,U_] H1:=by
  intro dv H1 s1 iD;refine q2 _ _ ?_;exists 8,N3,q3
  exists 5
  refine⟨0,m,_,trX,1,Z,.inl rfl,yl (),λx1 bH H2 s2 bb aG bc=> ?_⟩
  exists 5
  refine[0:(sml rfl):λt1 h1=>⟨m,_,trY,1,Z,.inr rfl,Is.new (ds:= [.str "x"]) ⟨_,0,yl (),1⟩ h1,λx2 bd H4 s4 au ag be=> ?_⟩]
  cases chQ_eq Z (.inl rfl) aG bc;cases chQ_eq Z (.inr rfl) ag be;have m1:=qf h1 (.tup [V.str "x"]);have ac:=m1.trans s4;refine due_sp nz_nm.2.2.1 (bb.same ac) aG au ag λv dd H5 s5 hD hv=> ?_;have e0:=nz_nm.2.2.2;have aH:=ch_rsn Z;have aI:=ch_ne Z;have aJ:=ch_due Z;rw [e0] at aH aI aJ;have aw:DueIs (chQ m trX) (chQ m trY) "t0" (dueC m):= .inr ⟨aI,_,_,_,aH,aJ.symm⟩;cases hD.one aw;have aK:Same H1 H5:=(s2.trans ac).trans s5
  exists 5
  refine⟨0,dueC m,hv,iD.mono aK.tk,aw.nu.1,aw.nu.2,0,iteN rfl (q3 _ _ ?_)⟩;have aL:=s1.trans aK;exists 8,N4,q4
  exists 5
  refine[sml rfl:λl0 bf=> ?_];have z0:=qf bf (.lst (N8.map V.str));have e0:(upd H5 l0 (.lst (N8.map V.str))) l0=u_ (.lst (N8.map V.str)):=qg;show wH _ (upd H5 l0 (.lst (N8.map V.str))) _;generalize upd H5 l0 (.lst (N8.map V.str))=H0 at z0 e0⊢
  exists 5
  refine⟨0,q,ns,(0),1,(),(sq_sm hq (aL.trans z0)),λc=>⟨_,0,1,(by show(0:Int)<8;decide),_,0,1,?_⟩⟩
  have c1:0<=c%8/\c%8<8:=[UV _ ():Ut _ ()]
  obtain⟨n,hn,bg,bh⟩:∃n:Nat,1+c%8=(n:Int)/\1<=n/\n<=8:=⟨(1+c%8).toNat,(),(),()⟩
  erw[n8_take bg bh,hN,bo]
  try dsimp only
  rw [hn]
  exists 5
  refine⟨0,l0,0,SqL.of e0,λl hl=> ?_⟩;rw [cut_take,<-Fk];generalize N8.take n=zs at hN bo⊢;have s6:=(aL.trans z0).trans (qf hl (.lst (zs.map V.str)));have e1:(upd H0 l (.lst (zs.map V.str))) l=u_ (.lst (zs.map V.str)):=qg;generalize upd H0 l (.lst (zs.map V.str))=H6 at s6 e1⊢;refine q4 _ _ ?_;exists 8,N5,q5
  exists 5
  refine⟨0,q,ns,1,sq_sm hq s6,λL0 ps us H7 _ s7 bp aM hok bI h8=> ?_⟩
  exists 5
  refine[(sml rfl):λt4 h4=>[(sml rfl):λt5 h5=>[(sml rfl):λt6 h6=>[(sml rfl):λt7 h7=> ?_]]]];have n4:=qf h4 (.tup [.str "text a b",.str "names b a",.str "say b"]);have j4:=Is.new (H:=H7) (ds:= [.str "text a b",.str "names b a",.str "say b"]) ⟨_,0,yl (),_,0,yl (),_,0,yl (),1⟩ h4
  have n5:=qf h5 (.tup [.str "rule",.ref t4]);have j5:Is _ NNd (.ref t5):=Is.new (ds:= [.str "rule",.tup [.str "text a b",.str "names b a",.str "say b"]]) ⟨_,0,yl (),_,0,j4,1⟩ h5
  have n6:=qf h6 (.tup [.str "nn",.ref t5]);have j6:Is _ (prD NNp) (.ref t6):=Is.new (ds:= [.str "nn",NNd]) ⟨_,0,yl (),_,0,j5,1⟩ h6
  have n7:=qf h7 (.lst [V.ref t6]);have am:=((n4.trans n5).trans n6).trans n7;have bq:=aM.length;rw [uc] at bq
  exists 5
  refine⟨L0,t7,us,[.ref t6],1,1,am _ _ bp,qg,(by show us.length+1<=Vb;omega),λL hL=>q5 _ _ ?_⟩
  have n8:=qf hL (.lst (us++ [V.ref t6]));have ap:=((aM.mono am.tk).append (L2.IsL.one (j6.mono n7.tk))).mono n8.tk;have aN:upd _ L (.lst (us++ [V.ref t6])) L=u_ (.lst (us++ [V.ref t6])):=qg (H:=(upd (upd (upd (upd H7 t4 (.tup [.str "text a b",.str "names b a",.str "say b"])) t5 (.tup [.str "rule",.ref t4])) t6 (.tup [.str "nn",.ref t5])) t7 (.lst [V.ref t6])));have s8:=((s6.trans s7).trans am).trans n8;have e8:=n8 _ _ (am _ _ (s7 _ _ e1));rw [<-List.map_singleton (f:=prD),<-uu] at ap;have aO:=nn_pr hok h8;have aP:(ps++ [NNp]).length<=9:=by rw [uB,vq];omega
  exists 8,N6,q6
  exists 5
  refine⟨0,q,ns,1,sq_sm hq s8,_,0,1,_,0,(),(),λp H9 aQ s9 P9=>q6 _ _ ?_⟩
  exists 8,N7,q7;have bt:=s9 _ _ aN;have aR:=ap.mono s9.tk;have aS:=s9 _ _ e8;have bJ:L≠p:=ql aN aQ;have aT:l≠p:=ql e8 aQ
  exists 0,(),()
  let J_:Nat->L2.St->Hp->Prop:=λi σ H'=>E10 λ(L1:o3) (rs:oj (Str×D)) (vs:oj V) (u2:om V) (u6:om V) (u7:om V) (u8:om V) (u9:om V) (ad:om V) (ae:om V)=>A7 (σ= [u_ (.ref q),u_ (.int (m:Int)),u2,u_ (.ref l),u_ (.ref L1),u_ (.ref p),u6,u7,u8,u9,ad,ae]) (Kept p H9 H') (PotQ H' p) (H' L1=u_ (.lst vs)) (L2.IsL H' (rs.map prD) vs) (PrOk rs) (rs.length<=9+2*i)
  refine ja (lo:=0) J_ ⟨L,_,_,_,_,_,_,_,_,0,Kept.refl _ _,P9,bt,aR,aO,aP⟩ ?_ ?_
  ·rintro i σ Ha hi ⟨L1,rs,vs,u2,u6,u7,u8,u9,ad,ae,rfl,Ka,Pa,ax,ay,aU,bD⟩;have bK:i<4:=by omega
   have bu:=prs_ne Pa ax ay;show tSeq _ _ _ _ Ha;exists 8,B1,b1
   exists 5
   refine⟨0,0,0,L1,p,l,rs,vs,zs,1,ax,ay,aU,(),Pa,Ka _ _ aS aT,hN,λao ss ws Hb Kb Pb aV aW aX bE=>b1 _ _ ?_⟩
   have aY:=Kb _ _ ax bu;have aZ:=ay.mono (Pa.tk Pb Kb);exists 8,B2,b2
   exists 5
   refine⟨0,L1,vs,1,.inl [SqL.of aY:λt ht=> ?_]⟩;have m1:=qf ht (.tup vs);intro x dx nx bv bL;have m2:Same (upd Hb t (.tup vs)) (upd (upd (upd Hb t (.tup vs)) dx (.own x)) x (.ins a.qC dx [])):=λb ob e=>by
    rwa [qh (ql e nx),qh (ql e bv)]
   have a1:=m1.trans m2
   exists 5
   refine⟨x,dx,t,rs,vs,1,qg,m2 _ _ qg,aZ.mono a1.tk,aU,(),λqs Hc keep hP hT _=>[1:b2 _ _ ?_]⟩
   have sc:Same Hb Hc:=λb ob e=>keep b ob (a1 _ _ e) (ql (m1 _ _ e) nx);exists 8,B3,b3
   exists 5
   refine⟨0,ao,ws,1,.inl [SqL.of (sc _ _ aV):λt2 bw=> ?_]⟩;have m3:=qf bw (.tup ws);intro x2 aA a2 a3 bF;have m4:Same (upd Hc t2 (.tup ws)) (upd (upd (upd Hc t2 (.tup ws)) aA (.own x2)) x2 (.ins a.qC aA [])):=λb ob e=>by
    rwa [qh (ql e a2),qh (ql e a3)]
   have a4:=m3.trans m4
   exists 5
   refine⟨x2,aA,t2,ss,ws,1,qg,m4 _ _ qg,(aW.mono sc.tk).mono a4.tk,aX,(),λbd Hd aB au ag _=>[1:b3 _ _ ?_]⟩
   have sd:Same Hc Hd:=λb ob e=>aB b ob (a4 _ _ e) (ql (m3 _ _ e) a2);have a5:=sc.trans sd;have bx:=hP.same sd;have kD:=(Ka.trans Kb).trans (Kept.of a5);have bA:=kD _ _ aS aT;exists 8,B4,b4
   exists 5
   refine⟨0,(sml rfl),λlz hz=>⟨l,lz,_,0,1,qf hz _ _ _ bA,qg,(by rw [uc];have:=hN.2.1;show zs.length+2<=Vb;omega),λly hy=> ?_⟩⟩
   have m5:=(qf hz (.lst [V.str "nn",V.str "zz"])).trans (qf hy (.lst (zs.map V.str++ [V.str "nn",V.str "zz"])));have aC:upd (upd Hd lz (.lst [V.str "nn",V.str "zz"])) ly (.lst (zs.map V.str++ [V.str "nn",V.str "zz"])) ly=u_ (.lst (zs.map V.str++ [V.str "nn",V.str "zz"])):=qg;generalize upd (upd Hd lz (.lst [V.str "nn",V.str "zz"])) ly (.lst (zs.map V.str++ [V.str "nn",V.str "zz"]))=He at m5 aC⊢
   exists ly,1,[_:SqL.of aC];have bB:=bx.same m5;have a6:=au.same m5
   let J2_:Nat->L2.St->Hp->Prop:=λj σ H'=>(∃u2 ad ae,σ= [u_ (.ref q),u_ (.int (m:Int)),u2,u_ (.ref l),u_ (.ref L1),u_ (.ref p),u_ (.int (0+(i:Int))),u_ (.ref ao),u_ (.ref x),u_ (.ref x2),ad,ae])/\Same He H'
   refine for_list (xs:=zs.map V.str++ [V.str "nn",V.str "zz"]) J2_ [[_:_:0]:Same.refl _] (λj σ H' _ h=>SqL.of (h.2 _ _ aC)) ?_ ?_
   ·rintro j y σ Hf hy ⟨⟨u2,ad,ae,rfl⟩,sf⟩;obtain⟨z,rfl,ah⟩:∃z,y=V.str z/\nm z=true:=by
     rcases Af.mp (uX hy) with h|h
     ·erw[Ag.mp h,z,hz,rfl];exact[z:1:(hN.2.2 z hz).1]
     ·simp![uC,uD,uO] at h;rcases h with rfl|rfl
      ·exact[0:nz_nm.1]
      ·exact[0:nz_nm.2.1]
    have af:=bB.same sf;have aq:=a6.same sf;show tSeq _ _ _ _ Hf;exists 8,D1,d1
    exists 5
    refine⟨0,0,x,z,qs,1,ah,af,hT,λv1 H1 s1 i1=> ?_⟩
    exists 5
    refine⟨0,0,x,z,qs,1,ah,af.same s1,hT,λv2 H2 s2 i2=> ?_⟩;erw[std_nd hT z,k1,k2];rw [xY] at i1 i2
    exists 5
    refine⟨_,_,i1.mono s2.tk,i2,k1,k1,(),0,iteN (by rw [(eqNL_iff k1).mpr rfl];rfl) (d1 _ _ ?_)⟩
    have aD:=s1.trans s2;exists 8,D2,d2
    exists 0,0,0;unfold tNil;refine due_sp ah (af.same aD) hT (aq.same aD) ag λv3 dd H3 s3 hD iD=>d2 _ _ ?_;have aE:=aD.trans s3;exists 8,D3,d3
    exists 0,0,0;unfold tNil;refine due_sp ah (af.same aE) hT (aq.same aE) ag λv4 bM H4 s4 ak a7=>d3 _ _ ?_;cases ak.one hD;have a8:=iD.mono s4.tk;have ac:=aE.trans s4;exists 8,D4,d4
    exists 0,1,0,1,1,0;refine iteN (by rw [is_non a7 a8 hD.nu.1];simp) ?_
    exists 5
    refine⟨0,0,dd,a7,a8,hD.nu.1,hD.nu.2,0,iteN rfl (d4 _ _ ?_)⟩
    exists 0,1,0;have fin:∀H5,Same H4 H5->J2_ (j+1) [u_ (.ref q),u_ (.int (m:Int)),u_ v3,u_ (.ref l),u_ (.ref L1),u_ (.ref p),u_ (.int (0+(i:Int))),u_ (.ref ao),u_ (.ref x),u_ (.ref x2),u_ (.str z),u_ v4] H5:=λH5 s5=>[[_:_:0]:(sf.trans ac).trans s5];by_cases ci:(V.int (0+(i:Int)))=V.int 0
    ·refine iteB (uf ci) ?_
     exists 0,0,0;unfold tNil;refine due_sp ah (af.same ac) hT (af.same ac) hT λv5 d5 H5 s5 h5 i5=> ?_;rcases h5 with⟨_,rfl⟩|⟨h5,_⟩
     ·cases(show v5= .non from i5)
      exact[1:0:iteN rfl (fin H5 s5)]
     ·exact absurd rfl h5
    ·refine iteN (uh ci) ?_;exact fin H4 (Same.refl _)
   ·rintro σ Hf ⟨⟨u2,ad,ae,rfl⟩,sf⟩;refine b4 _ _ ?_;have kf:=kD.trans (Kept.of (m5.trans sf));have aF:=(a5.trans m5).trans sf;exact⟨0,ao,ss,ws,_,_,_,_,_,_,0,kf,Pb.same aF,aF _ _ aV,aW.mono aF.tk,aX,()⟩
  ·rintro σ Ha _;exact q7 _ _ (k Ha)
 exists 5
 refine⟨0,0,(),(),λDd hD=> ?_⟩
 refine XG (lo:=0) (n:=m) (tl:= []) (λi ys H'=>ys=((Vh i).map tK).map V.str/\Same H H') (yD ()) [1:qf hD _] ?_ ?_
 ·rintro i ys H' hi ⟨rfl,s1⟩ ak hy R hR;have hk:=rK_ok i ()
  rw [show(0:Int)+(i:Int)=(i:Int) by omega]
  exists 5
  refine⟨0,0,al _ () (),_,0,1,(by have:=hk.2.2.2.2.2;show 1+(strI (i:Int)).length<=Vb;omega),?_⟩
  refine hR _ H' ak ⟨?_,λb o e=>by rw [qh (ql e hD)];exact s1 b o e⟩
  rw [Hu,uu,uu]
  rfl
 ·rintro ys H' ⟨rfl,s1⟩ ak
  exists 5
  refine[Dd:0:.inl [SqL.of ak:λt1 h1=> ?_]];have m1:=qf h1 (.tup (((Vh m).map tK).map V.str))
  exists 5
  refine[(sml rfl):λt2 h2=> ?_];have m2:=qf h2 (.tup [V.int 0]);have fin:∀(tz:o3) (H3:Hp),Same (upd H' t1 (.tup (((Vh m).map tK).map V.str))) H3->H3 tz=u_ (.tup (Vl (m-1) (V.int 0)))->∀t3,H3 t3=U_->∀t4,upd H3 t3 (.tup [V.str "source"]) t4=U_->N2 [u_ (.ref q),u_ (.int (m:Int)),u_ (.ref t4),U_,U_,U_,U_,U_,U_,U_,U_,U_] (upd (upd H3 t3 (.tup [V.str "source"])) t4 (.tup [V.ref t1,V.ref tz,V.ref t3])):=by
   intro tz H3 s3 hz t3 h3 t4 h4;have m3:=qf h3 (.tup [V.str "source"]);have m4:=qf h4 (.tup [V.ref t1,V.ref tz,V.ref t3]);refine ba _ _ (((s1.trans m1).trans s3).trans (m3.trans m4)) ?_;have a9:∀z∈(Vh m).map tK,z.length<=100:=λz hz=>by
    erw[Ag.mp hz,i,hi,rfl];have:=(rK_ok i (by have:=List.mem_range.mp hi;omega)).2.2.2.1
    omega
   exact Is.new (ds:= [.tup (((Vh m).map tK).map D.str),.tup (Vl (m-1) (.int 0)),.tup [.str "source"]]) ⟨_,0,⟨t1,0,m3 _ _ (s3 _ _ qg),ZC a9⟩,_,0,⟨tz,0,m3 _ _ hz,reps _⟩,_,0,Is.new (ds:= [.str "source"]) ⟨_,0,yl (),1⟩ h3,1⟩ h4
  exists 5
  refine⟨0,_,0,1,t2,_,[.int 0],1,1,SqT.of qg,by simp,(),(),(by show 1*((m:Int)-1).toNat<=Vb;omega),λe=> ?_,λe p hp=> ?_⟩
  ·exists 5
   refine[(sml rfl):λt3 h3=>[(sml rfl):λt4 h4=> ?_]];refine fin t2 _ m2 ?_ t3 h3 t4 h4;rw [qg,show m-1=1 by omega]
   rfl
  ·exists 5
   refine[(sml rfl):λt3 h3=>[(sml rfl):λt4 h4=> ?_]];refine fin p _ (m2.trans (qf hp _)) ?_ t3 h3 t4 h4;rw [qg,show((m:Int)-1).toNat=m-1 by omega]
   have:∀n:Nat,(Vl n [V.int 0]).flatten=Vl n (V.int 0):=λn=>by
    induction n with
    |zero=>rfl
    |succ n ih=>rw [vX,UE,ih];rfl
   rw [this]
end
theorem tx_mk {K:o0}{h:o8}{mg:Str->om o6}(X:K.In h)(G:h.Ns Vv mg){U Z O aa f1 f2 f3 f4 f5 f6 f7 f8 f9 aU aV aW aX aY aZ a1 a2 a3 a4 a5 a6 a7 a8 a9 ba bb bc bd be bf bg bh bo bp bq bt bu bv bw bx bA bB bC bD bE bF bG bH bI bJ bK bL bM bN bO bP bQ bR bS bT bU bV bW bX bY bZ b3 b4 b5 b6 b7 b8 b9 ca cb cc cd ce cf cg ch ci cj:o3}{t1 t2 t3 t4 t5 t6 t7 t8 t9 ck cm:Tok}
  (aK:#[K,"Machine"]=u_ (u_ (.ref U))) (aL:Cls K U) (aB:PySem.W.makesIn K U=v_/\PySem.W.keepIn K (.ref U)=v_)
  (aO:#[K,"Going"]=u_ (u_ (.ref Z))) (aP:Cls K Z) (aJ:PySem.W.makesIn K Z=v_/\PySem.W.keepIn K (.ref Z)=v_)
  (aD:#[K,"PlainOrder"]=u_ (u_ (.ref O))) (aE:Cls K O) (af:PySem.W.makesIn K O=v_/\PySem.W.keepIn K (.ref O)=v_)
  (aM:#[K,"Project"]=u_ (u_ (.ref aa))) (aN:Cls K aa) (aC:PySem.W.makesIn K aa=v_/\PySem.W.keepIn K (.ref aa)=v_)
  (h1:FZg K "is_text" wt f1)
  (h2:FZg K "is_tree" XQ f2)
  (h3:FZg K "is_name" Z2 f3)
  (h4:FZg K "is_pair" ZN f4)
  (h5:FZg K "is_row_of_names" yS f5)
  (h6:FZg K "is_answer" xF f6)
  (h7:FZg K "part_of" Z1 f7)
  (h8:FZg K "pieces_of" xl f8)
  (h9:FZg K "row_of" Zz f9)
  (h10:FZg K "read_lines" Jt aU)
  (h11:FZg K "rule_rows" xh aV)
  (h12:FZg K "bad_line" zm aW)
  (h13:FZg K "is_rule" ZQ aX)
  (cn:FZg K "text_made" xT aY)
  (cp:FZg K "self_made" xM aZ)
  (cq:FZg K "copy_made" xi a1)
  (cr:FZg K "row_made" zC a2)
  (cu:FZg K "put_made" zx a3)
  (cv:FZg K "join_made" xU a4)
  (cw:FZg K "first_made" Jy a5)
  (cx:FZg K "rest_made" xI a6)
  (cy:FZg K "size_made" xu a7)
  (cz:FZg K "cut_made" zj a8)
  (cA:FZg K "glue_made" xv a9)
  (cB:FZg K "is_jump_taken" Yv ba)
  (cC:FZg K "asked_or_fault" Yg bb)
  (aQ:FZm K U "__init__" "Machine.__init__" Y0 bc)
  (cD:FZm K U "now" "Machine.now" js bd)
  (cE:FZm K U "answer" "Machine.answer" Yj be)
  (cF:FZm K U "asked" "Machine.asked" YI bf)
  (cG:FZm K U "go_on" "Machine.go_on" YC bg)
  (cH:FZm K U "is_waiting" "Machine.is_waiting" Q8 bh)
  (cI:FZm K U "do_row" "Machine.do_row" Yi bo)
  (cJ:FZm K U "hold" "Machine.hold" Y3 bp)
  (aR:FZm K Z "__init__" "Going.__init__" Jf bq)
  (cK:FZm K Z "begin" "Going.begin" jH bt)
  (cL:FZm K Z "look" "Going.look" jX bu)
  (cM:FZm K Z "wanted" "Going.wanted" Y8 bv)
  (cN:FZm K Z "take" "Going.take" Jd bw)
  (cO:FZm K Z "full" "Going.full" jY bx)
  (aS:FZm K O "__init__" "PlainOrder.__init__" yO bA)
  (cP:FZm K O "begin_anew" "PlainOrder.begin_anew" QR bB)
  (cQ:FZm K O "go_through" "PlainOrder.go_through" QP bC)
  (cR:FZm K O "enter" "PlainOrder.enter" yA bD)
  (cS:FZm K O "settle" "PlainOrder.settle" yh bE)
  (cT:FZm K O "runner" "PlainOrder.runner" yi bF)
  (cU:FZm K O "leave" "PlainOrder.leave" yH bG)
  (cV:FZm K O "go_on" "PlainOrder.go_on" yI bH)
  (cW:FZm K O "answer_yet" "PlainOrder.answer_yet" QQ bI)
  (cX:FZg K "answer_at_once" Ye bJ)
  (cY:FZg K "answer_by" xS bK)
  (cZ:FZg K "check_name" JB bL)
  (c0:FZg K "check_names" jw bM)
  (c1:FZg K "order_from" Jr bN)
  (c2:FZg K "order_over" Jj bO)
  (c3:FZg K "answer_of" xx bP)
  (c4:FZg K "full_run" zu bQ)
  (c5:FZg K "stands" KB bR)
  (c6:FZg K "standing" X0 bS)
  (c7:FZg K "reason" KF bT)
  (c8:FZg K "first_unlike" Y2 bU)
  (c9:FZg K "is_source" xG bV)
  (aT:FZm K aa "__init__" "Project.__init__" yX bW)
  (da:FZm K aa "sources" "Project.sources" jl bX)
  (de:FZm K aa "source_of" "Project.source_of" yk bY)
  (dh:FZm K aa "looked_up" "Project.looked_up" QN bZ)
  (di:FZg K "longest_row" ju b3)
  (dj:FZg K "_law_cell_at" jo b4)
  (dk:FZg K "_law_pot" wz b5)
  (dl:FZg K "_law_take" zl b6)
  (dm:FZg K "_law_word" zB b7)
  (dq:FZg K "_law_line" JD b8)
  (dt:FZg K "_law_rule" JL b9)
  (dv:FZg K "_law_maker" xH ca)
  (dw:FZg K "_law_leaf" JF cb)
  (dy:FZg K "_law_source" Jm cc)
  (dz:FZg K "_law_sources" jv cd)
  (dA:FZg K "_law_changed" jy ce)
  (dB:FZg K "_law_standing" Y4 cf)
  (dC:FZg K "_law_parting" jt cg)
  (dD:FZg K "_law_due" wI ch)
  (dE:FZg K "_law_chain" xn ci)
  (dF:FZg K "law" s_law cj)
  (ax:#[K,U,"rows"])
  (ay:#[K,U,"rule"])
  (aF:#[K,U,"own"])
  (ao:#[K,U,"boxes"])
  (ap:#[K,U,"place"])
  (aA:#[K,U,"done"])
  (aq:#[K,U,"given"])
  (au:#[K,U,"there"])
  (aH:#[K,Z,"name"])
  (aG:#[K,Z,"order"])
  (aw:#[K,Z,"made_by"])
  (ak:#[K,Z,"rule_asks"])
  (am:#[K,Z,"rule_run"])
  (aI:#[K,Z,"end"])
  (ac:#[K,O,"given_project"])
  (ag:#[K,O,"stack"])
  (ad:#[K,O,"under_way"])
  (ae:#[K,O,"full_runs"])
  (ah:#[K,O,"found"])
  (al:#[K,aa,"by_name"])
  (g1:#[K,"MOST_SIGNS"]=u_ (u_ (.int 300 t1)))
  (g2:#[K,"MOST_PARTS"]=u_ (u_ (.int 40 t2)))
  (g3:#[K,"MOST_SIZE"]=u_ (u_ (.int 600 t3)))
  (g4:#[K,"MOST_DEPTH"]=u_ (u_ (.int 12 t4)))
  (g5:#[K,"MOST_NAME_SIGNS"]=u_ (u_ (.int 24 t5)))
  (g6:#[K,"LETTERS"]=u_ (u_ (.str "abcdefghijklmnopqrstuvwxyz" t6)))
  (g7:#[K,"NAME_SIGNS"]=u_ (u_ (.str "abcdefghijklmnopqrstuvwxyz0123456789./" t7)))
  (g8:#[K,"PERCENT"]=u_ (u_ (.int 37 t8)))
  (g9:#[K,"MOST_LINES"]=u_ (u_ (.int 40 t9)))
  (dG:#[K,"MOST_DONE"]=u_ (u_ (.int 300 ck)))
  (dH:#[K,"MOST_NAMES"]=u_ (u_ (.int 60 cm)))
  (zz:∀x∈(["ord","len","isinstance","str","tuple","all","int","range","zip","dict","sorted","abs","min","sum","list"]:oj Str),PySem.W.nsIn K Vv x=u_ U_):∃a,Tx K mg a:=by
 exists 6,d1,F1,Qh,h1,["value"];exists 6,d2,F2,Qh,h2,["value"];exists 6,d3,F3,Qh,h3,["value"];exists 6,d4,F4,Qh,h4,["value"];exists 6,d5,F5,Qh,h5,["tree"];exists 6,d6,F6,Qh,h6,["ask","answer"];exists 6,d7,F7,Qh,h7,["kind","piece","count"];exists 6,d8,F8,Qh,h8,["line","form"];exists 6,d9,F9,Qh,h9,["line","count"];exists 6,dI,dJ,Qh,h10,["value"];exists 6,dL,dM,Qh,h11,["tree"];exists 6,dN,dO,Qh,h12,["tree"];exists 6,dP,dQ,Qh,h13,["value"];exists 6,dR,dS,Qh,cn,["boxes","own","parts"];exists 6,dU,dV,Qh,cp,["boxes","own","parts"];exists 6,dW,dX,Qh,cq,["boxes","own","parts"];exists 6,dY,dZ,Qh,cr,["boxes","own","parts"];exists 6,d0,ea,Qh,cu,["boxes","own","parts"];exists 6,eb,ec,Qh,cv,["boxes","own","parts"];exists 6,ed,ef,Qh,cw,["boxes","own","parts"];exists 6,eg,eh,Qh,cx,["boxes","own","parts"];exists 6,ei,ej,Qh,cy,["boxes","own","parts"];exists 6,ek,el,Qh,cz,["boxes","own","parts"];exists 6,em,eo,Qh,cA,["boxes","own","parts"];exists 6,eq,er,Qh,cB,["boxes","word","parts"];exists 6,et,eu,Qh,cC,["word","held"];obtain⟨ew,ey⟩:=yQ aQ ["self","rule","own"] (by rfl');obtain⟨ez,eA⟩:=yQ cD ["self"] (by rfl');obtain⟨eB,eC⟩:=yQ cE ["self","tree"] (by rfl');obtain⟨eD,eE⟩:=yQ cF ["self"] (by rfl');obtain⟨eF,eG⟩:=yQ cG ["self"] (by rfl');obtain⟨eH,eI⟩:=yQ cH ["self"] (by rfl');obtain⟨eJ,eK⟩:=yQ cI ["self","row"] (by rfl');obtain⟨eL,eM⟩:=yQ cJ ["self","box","tree"] (by rfl');obtain⟨eN,eO⟩:=yQ aR ["self","name","source","order"] (by rfl');obtain⟨eP,eQ⟩:=yQ cK ["self","rule"] (by rfl');obtain⟨eR,eS⟩:=yQ cL ["self"] (by rfl');obtain⟨eT,eU⟩:=yQ cM ["self"] (by rfl');obtain⟨eV,eW⟩:=yQ cN ["self","answer"] (by rfl');obtain⟨eX,eY⟩:=yQ cO ["self"] (by rfl');obtain⟨eZ,e0⟩:=yQ aS ["self","project"] (by rfl');obtain⟨e1,e2⟩:=yQ cP ["self","project"] (by rfl');obtain⟨e3,e4⟩:=yQ cQ ["self","name"] (by rfl');obtain⟨e5,e6⟩:=yQ cR ["self","name"] (by rfl');obtain⟨e7,e8⟩:=yQ cS ["self","going"] (by rfl');obtain⟨e9,fa⟩:=yQ cT ["self","rule","own"] (by rfl');obtain⟨fb,fc⟩:=yQ cU ["self","going"] (by rfl');obtain⟨fe,ff⟩:=yQ cV ["self","going"] (by rfl');obtain⟨fg,fh⟩:=yQ cW ["self","name"] (by rfl');exists 6,fi,fj,Qh,cX,["source"];exists 6,fm,fo,Qh,cY,["end"];exists 6,fq,ft,Qh,cZ,["name"];exists 6,fu,fv,Qh,c0,["names"];exists 6,fw,fx,Qh,c1,["project","name"];exists 6,fy,fz,Qh,c2,["project","names"];exists 6,fA,fB,Qh,c3,["project","name"];exists 6,fC,fD,Qh,c4,["project","name"];exists 6,fE,fF,Qh,c5,["project","name"];exists 6,fG,fH,Qh,c6,["order","name"];exists 6,fI,fJ,Qh,c7,["project","other","name"];exists 6,fK,fL,Qh,c8,["asks","others"];exists 6,fM,fN,Qh,c9,["value"];obtain⟨fO,fP⟩:=yQ aT ["self","sources"] (by rfl');obtain⟨fQ,fR⟩:=yQ da ["self"] (by rfl');obtain⟨fS,fT⟩:=yQ de ["self","name"] (by rfl');obtain⟨fU,fV⟩:=yQ dh ["self","ask"] (by rfl');exists 6,fW,fX,Qh,di,["names"];exists 6,fY,fZ,Qh,dj,["script","k"];exists 6,f0,ga,Qh,dk,["cell","salt"];exists 6,gb,gc,Qh,dl,["pot","many"];exists 6,ge,gf,Qh,dm,["pot","names"];exists 6,gg,gh,Qh,dq,["pot","names","many","k"];exists 6,gj,gk,Qh,dt,["pot","names"];exists 6,gl,gm,Qh,dv,["pot","names"];exists 6,gq,gr,Qh,dw,["pot","names"];exists 6,gt,gu,Qh,dy,["pot","names"];exists 6,gv,gw,Qh,dz,["script"];exists 6,gx,gy,Qh,dA,["pairs","pot","names"];exists 6,gz,gA,Qh,dB,["project","name"];exists 6,gB,gC,Qh,dC,["project","other","name"];exists 6,gD,gE,Qh,dD,["project","other","name"];exists 6,gF,gG,Qh,dE,["many","tree"];exists 6,gH,gI,Qh,dF,["script"];have z:∀x∈(["ord","len","isinstance","str","tuple","all","int","range","zip","dict","sorted","abs","min","sum","list"]:oj Str),mg x=none:=λx hx=>PySem.W.mg_none_of X G (zz x hx);simp![uC,vm,uO,forall_eq_or_imp,forall_eq] at z;erw[z,z1,z2,z3,z4,z5,z6,z7,z8,z9,gJ,gK,gL,gM,gN,gO];exact[⟨f1,d1,f2,d2,f3,d3,f4,d4,f5,d5,f6,d6,f7,d7,f8,d8,f9,d9,aU,dI,aV,dL,aW,dN,aX,dP,aY,dR,aZ,dU,a1,dW,a2,dY,a3,d0,a4,eb,a5,ed,a6,eg,a7,ei,a8,ek,a9,em,ba,eq,bb,et,bc,ew,bd,ez,be,eB,bf,eD,bg,eF,bh,eH,bo,eJ,bp,eL,bq,eN,bt,eP,bu,eR,bv,eT,bw,eV,bx,eX,bA,eZ,bB,e1,bC,e3,bD,e5,bE,e7,bF,e9,bG,fb,bH,fe,bI,fg,bJ,fi,bK,fm,bL,fq,bM,fu,bN,fw,bO,fy,bP,fA,bQ,fC,bR,fE,bS,fG,bT,fI,bU,fK,bV,fM,bW,fO,bX,fQ,bY,fS,bZ,fU,b3,fW,b4,fY,b5,f0,b6,gb,b7,ge,b8,gg,b9,gj,ca,gl,cb,gq,cc,gt,cd,gv,ce,gx,cf,gz,cg,gB,ch,gD,ci,gF,cj,gH,U,Z,O,aa⟩:⟨F1,F2,F3,F4,F5,F6,F7,F8,F9,dJ,dM,dO,dQ,dS,dV,dX,dZ,ea,ec,ef,eh,ej,el,eo,er,eu,ey,eA,eC,eE,eG,eI,eK,eM,eO,eQ,eS,eU,eW,eY,e0,e2,e4,e6,e8,fa,fc,ff,fh,fj,fo,ft,fv,fx,fz,fB,fD,fF,fH,fJ,fL,fN,fP,fR,fT,fV,fX,fZ,ga,gc,gf,gh,gk,gm,gr,gu,gw,gy,gA,gC,gE,gG,gI,aL,⟨aB.1,aQ.1,aQ.2.1,aB.2⟩,uR X G aK,ax,ay,aF,ao,ap,aA,aq,au,aP,⟨aJ.1,aR.1,aR.2.1,aJ.2⟩,uR X G aO,aH,aG,aw,ak,am,aI,aE,⟨af.1,aS.1,aS.2.1,af.2⟩,uR X G aD,ac,ag,ad,ae,ah,aN,⟨aC.1,aT.1,aT.2.1,aC.2⟩,uR X G aM,al,[_:uR X G g1],[_:uR X G g2],[_:uR X G g3],[_:uR X G g4],[_:uR X G g5],[_:uR X G g6],[_:uR X G g7],[_:uR X G g8],[_:uR X G g9],[_:uR X G dG],[_:uR X G dH],z1,z2,z3,z4,z5,z6,z7,z8,z9,gJ,gK,gL,gM,gN,gO⟩]
variable {K:o0}{h:o8}{mg:Str->om o6}{f:o3}{x:Str}
theorem mk1 (X:K.In h)(G:h.Ns Vv mg){O:o3}{y:Str}(z:∃m,PySem.W.nsIn K Vv y=u_ (u_ (.ref m))/\PySem.W.nsIn K O x=u_ (u_ (.ref m)))(e:mg y=u_ (.ref f)):PySem.W.nsIn K O x=u_ (u_ (.ref f)):=by
 erw[z,m,h1,h2];have:=(uR X G h1).symm.trans e;injection this with this
 injection this with this
 rw [<-this];exact h2
def MKP:oj (Str×Str):= [("text","text_made"),("self","self_made"),("copy","copy_made"),("row","row_made"),("put","put_made"),("join","join_made"),("first","first_made"),("rest","rest_made"),("size","size_made"),("cut","cut_made"),("glue","glue_made")]
def keyS (e:GF):om Str:=match e.key with
 | .str x _=>u_ x
 |_=>U_
variable {a:o3}{es:Array GF}{n:Nat}{z:Str}
theorem kW (hl:K.lookup a=u_ ⟨.type "dict",U_,.dict es n,#[]⟩)(hk:es.toList.map keyS=FRM.map λx=>u_ x.1)(hz:xb z=U_):PySem.W.nsIn K a z=u_ none:=by
 have h1:∀e∈es.toList,∃x t,e.key= .str x t/\x≠z:=by
  intro e U;have hm:keyS e∈es.toList.map keyS:=Ag.mpr [e:U:1];rw [hk] at hm;erw[Ag.mp hm,x,Z,ex];have O:=wX hz x Z;unfold keyS at ex;split at ex
  ·rename_i y t hy
   cases ex;exact⟨_,_,hy,O⟩
  ·cases ex
 unfold PySem.W.nsIn;rw [hl]
 try dsimp only
 have f1:es.toList.find? (λe=>e.key.isStr z)=none:=by
  rw [Ur];intro e U;erw[h1 e U,x,t,Z,O];rw [Z];exact λq=>O (uA q)
 have f2:es.toList.any (·.refKey)=false:=by
  rw [T2];intro e U;erw[h1 e U,x,t,Z,O];unfold rA;rw [Z];exact u5
 rw [f1,f2]
 rfl
theorem fx_mk {w:og}{K:o0}{h:o8}{mg:Str->om o6}{a:Ad}(T:Tx K mg a)(X:K.In h)(G:h.Ns Vv mg){aB aA aF Z O U:o3}{eF eM:Array GF}{nF nM:Nat}
  (gB:#[K,"BOXES"]=u_ (u_ (.ref aB))) (gA:#[K,"ASKING"]=u_ (u_ (.ref aA))) (gF:#[K,"FORMS"]=u_ (u_ (.ref aF))) (gM:#[K,"MAKERS"]=u_ (u_ (.ref Z)))
  (lB:TZ K aB BX) (lA:TZ K aA ["ask","has","names"]) (lF:K.lookup aF=u_ ⟨.type "dict",U_,.dict eF nF,#[]⟩) (lM:K.lookup Z=u_ ⟨.type "dict",U_,.dict eM nM,#[]⟩)
  (kF:PySem.W.KeysLit w.params eF.toList) (kM:PySem.W.KeysLit w.params eM.toList) (zF:(aF==Vu)=V9) (zM:(Z==Vu)=V9)
  (fF:∀x∈FRM,TZn K aF x.1 (x.2.map Kd.t)) (fM:∀p∈MKP,∃m,PySem.W.nsIn K Vv p.2=u_ (u_ (.ref m))/\PySem.W.nsIn K Z p.1=u_ (u_ (.ref m))) (oM:∀z∈NOMK,PySem.W.nsIn K Z z=u_ U_)
  (kk:eF.toList.map keyS=FRM.map λx=>u_ x.1)
  (g1:#[K,"BadRule"]=u_ (u_ (.ref O))) (b1:PySem.W.excIn K O VE "ValueError.__new__"=v_)
  (g2:#[K,"BadName"]=u_ (u_ (.ref U))) (b2:PySem.W.excIn K U VE "ValueError.__new__"=v_):∃g,Fx K w mg g a:=by
 refine[⟨aB,aA,aF,Z,O,U⟩:⟨uR X G gB,uR X G gA,uR X G gF,uR X G gM,λH=>lB.sq (),λH=>lA.sq (),⟨zF,eF,nF,lF,kF⟩,λx hx=> ?_,⟨zM,eM,nM,lM,kM⟩,mk1 X G (fM ("text","text_made") ()) T.g_text_made.m,mk1 X G (fM ("self","self_made") ()) T.g_self_made.m,mk1 X G (fM ("copy","copy_made") ()) T.g_copy_made.m,mk1 X G (fM ("row","row_made") ()) T.g_row_made.m,mk1 X G (fM ("put","put_made") ()) T.g_put_made.m,mk1 X G (fM ("join","join_made") ()) T.g_join_made.m,mk1 X G (fM ("first","first_made") ()) T.g_first_made.m,mk1 X G (fM ("rest","rest_made") ()) T.g_rest_made.m,mk1 X G (fM ("size","size_made") ()) T.g_size_made.m,mk1 X G (fM ("cut","cut_made") ()) T.g_cut_made.m,mk1 X G (fM ("glue","glue_made") ()) T.g_glue_made.m,oM,λz hz=>kW lF kk hz,uR X G g1,b1,uR X G g2,b2⟩]
 erw[fF x hx,q,h1,h2];exact⟨q,h1,λH=>by rw [X2];exact h2.sq (by rw [uc];exact uM (form_few x hx) ())⟩
end K67
open PySem PySem.W PyProof.Rows L2
set_option maxRecDepth 100000 in
set_option maxHeartbeats 0 in
theorem PySem.Challenge.cw_askwright_k67_reasons_told_holds : PySem.Challenge.rw_askwright_k67_reasons_told.Holds := by
 w_on;o_law;k_head;(case hw=>w_witness2)
 k_fill
 refine L2.walk_ofK (l:=PySem.Challenge.rw_askwright_k67_reasons_told) (n:=63) (k:=19) (x:="script") (CX:=L2.CX0) (sp:=K67.sp_law) rfl (by decide) rfl ⟨rfl,by decide,by decide⟩ (fun w h Y=>PySem.W.kIn_of Y) ?F ?S ?C
 case F=>
  intro w mg fa h KX G hmg
  have T:∃a,K67.Tx (L2.KOf KX) mg a:=by
   try dsimp only [L2.KOf]
   refine' K67.tx_mk KX G ..
   all_goals first|exact⟨by k_is,_,_,_,_,_,_,_,_,_,by k_is,by k_is,by k_is⟩|exact⟨by k_is,by k_is,_,_,_,_,_,_,_,_,_,by k_is,by k_is,by k_is⟩|(show _=_;k_is)|exact⟨by k_is,by k_is,by k_is,by k_is⟩|exact⟨by k_is,by k_is⟩|(intro x hx;simp only [uC,vm,uO] at hx;rcases hx with rfl|rfl|rfl|rfl|rfl|rfl|rfl|rfl|rfl|rfl|rfl|rfl|rfl|rfl|rfl<;>k_is)|skip
  erw[T,a,T]
  have C:∃g,K67.Fx (L2.KOf KX) w mg g a:=by
   try dsimp only [L2.KOf] at T⊢
   refine' K67.fx_mk T KX G (kF:= ?kF) (kM:= ?kM) (fF:= ?fF) (fM:= ?fM) (oM:= ?oM) (kk:= ?kk) (b1:= ?b1) (b2:= ?b2) ..
   all_goals try (first|(show _=u_ (u_ _);k_is)|(show _=u_ (Obj.mk _ _ _ _);k_is)|exact⟨_,_,_,_,by k_is,rfl⟩)
   (case kF=>(repeat (first|exact trivial|refine[⟨_,_,rfl,rfl⟩:?_])));(case kM=>(repeat (first|exact trivial|refine[⟨_,_,rfl,rfl⟩:?_])))
   case fF=>
    intro x hx
    unfold FRM at hx
    simp only [uC,vm,uO] at hx
    rcases hx with rfl|rfl|rfl|rfl|rfl|rfl|rfl|rfl|rfl|rfl|rfl|rfl|rfl|rfl|rfl|rfl|rfl|rfl|rfl|rfl<;>exact⟨_,by k_is,_,_,_,_,by k_is,rfl⟩
   case fM=>
    intro x hx
    unfold K67.MKP at hx
    simp only [uC,vm,uO] at hx
    rcases hx with rfl|rfl|rfl|rfl|rfl|rfl|rfl|rfl|rfl|rfl|rfl<;>exact⟨_,by k_is,by k_is⟩
   case oM=>
    intro x hx
    unfold K67.NOMK at hx
    simp only [uC,vm,uO] at hx
    rcases hx with rfl|rfl|rfl|rfl|rfl|rfl|rfl|rfl|rfl<;>k_is
   (case kk=>rfl);(case b1=>k_exc);(case b2=>k_exc)
   all_goals rfl
  erw[C,g,C]
  have e0:=hmg.symm.trans T.g_law.m
  cases e0
  exact⟨_,T.g_law.law (fun _ _ _ _ _ _ _=>rfl),(by erw[T.g_law.F.ex,_,_,_,_,_,_,_,_,_,e,_];rw [e];rfl),fun base kb nb=>K67.ok_law T C⟩
 case S=>exact fun w H a ns hl hO hS=>⟨a,ns,rfl,hS,hl,fun _=>rfl⟩
 case C=>exact fun _ _ _ _ z=>z
