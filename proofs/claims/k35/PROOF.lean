import PyProof.Rows.All
import Wide.All
import OpenK.AllK
import Wide.FinOn
import Lean
import PyProof.EqAt
import PyProof.EqKinds
import PyProof.TupleCall
import PySem.Str
import PyProof.ZipIter
import PyProof.Draws
import PyProof.StrLawsChain
import PyProof.StrLawsTight
import KE.KIntText
import OpenK.KTop
import PyProof.StationsW
import PyProof.ExcClass2
import PyProof.ExcBaseAll.ValueError
import PyProof.Rows.Catch
import OpenK.KOwn
import KE.KTryMore
import KE.FramesApart
import PyProof.RulesAs
import PyProof.NsDelKeeps
import PyProof.ExcArgs
import PyProof.Rows.SortStr
import KE.KDictSum
import PyProof.DictWalks
import PyProof.IsiH_list
import KE.KDictOf
import PyProof.NeKinds
import PyProof.StrCalls6
import PyProof.FString
import KE.KUnpack
import KE.KItemsList
import KE.KRevIter
import KE.IntBitsLaws
import PyProof.FString5
import PyProof.TupleKey
import Wide.Seal
import PyProof.Rows.SortShellK
import PyProof.DictRoadsH
import PyProof.Rows.SortRev
import PyProof.Rows.SetFrom
import PyProof.FactsAll.set_2
import PyProof.FactsAll.set_1
import PyProof.Rows.SortShell
import PyProof.Tail
import KE.KMinKey
import PyProof.ExcArgsOwn
import PyProof.ExcAttrAll.ValueError
import KE.KRevSl
import PyProof.FactsAll.dict_itemiterator_1
import PyProof.TupleOfSeq
import PySem.Challenge.RW_askwright_k35_ways_of_things
local macro_rules|`(↑$x)=>`(($x).length)
local macro_rules|`(tactic|simp! [$x,*] $[$l:location]?)=>`(tactic|simp only [$x,*] $[$l]?)|`(tactic|dsimp! [$x,*] $[$l:location]?)=>`(tactic|dsimp only [$x,*] $[$l]?)
set_option hygiene false in
local macro_rules | `(command| #print $s:str) => do { let mut a := #[]; let mut n := 0; let mut k := 0; for c in s.getString.toList do { let v := c.toNat; n := n*64+(if v<58 then v-48 else if v<91 then v-55 else if v==95 then 62 else if v==126 then 63 else v-61); k := k+1; if k%11==0 then { a := a.push (Lean.mkIdent (Lean.Name.mkSimple ("tw"++toString n))); n := 0 } }; `(structure PySem.W.Fast:Prop where ($a*:True)) }
set_option maxRecDepth 100000 in
#print "9R2AL5ARa12BwS1eCoUITp0rzMgheoYBXDo43pZSL32tE6msyeF0NDzEg8MzE2GtJ0Bd_o733W8EEBPVS1dClIDRFAyyX_g7BnVBfae~r0UO5QCDCAWgHPRi76QFVcW4YJjf0n4EnGbFyty88jw1hxe6p09LQvsazrjg38at6IZJSXet3Xbf4XDh74E4_RP_VMsnpn34r0_T5fzmc7rA0~TvXoLmEAEc36UPT220TJsJy5YUjM7IbhcDR6eYm7Owc62qRrbK4LXYDwl4UNp0u~VFi0xoW60kwugs2BV6hFemyekdvK4SCeET4zp6EBAB3e~mjVxI5ABbW0V3W1qXSFsjmvtocGUZ8HJ4~MlnaRr6SjvCZNeiBF8Po223blqL9E_ssMUoBp~H7X8vsDt71zS7mTXYIH4FKE8gEEMpJegseFpsBu_ogdRn6n4mX_m0ZRY5NLAL~fuuB07J5Kp_nd4MG4E8m1UNNppt3_9hKfRhBNg693una6Su2sCxiSGld6wasFmTcQXzkI446N2WLJ8LQQWAg6lFZii1~_At7wo0xyjCU1fELSlYIo8H7SBcD9F2nCcDYhswplYehD4aQo5KmmuZh8Pv8EAx5UhM0~opZ1_iKZs4cUyQKh0nqNAsP9lSECBBM5ntjIgQPLHiFVwqh6JX~lU6LaJ1W3F6q~7zB3igUoHgVCrduRzhueGF0dgB9y1z0_lF~l1J5G~abl4dkTIavl86PEN0~EOdwN3t6PMFUjiahtF6zEOIyBYtA_0_GkLvHFttE6F0gBkgYkVj2zq6s1H2s~~1IJs6bVhxoZ9P7ggB46Zp6CeTLNiwLhEV9lbsopAZfnYB3gGoZ17JgX5NfpOd2IBs3CuYObOLP98Z5u2hfYX3SEK3hZqjdGBIoG5eI8YH8_XtH75~gzWQcAIKEyHgGcRc6en9Kh1d__sfCFFImQf2wI5_M2ixLZoXZFwcCRGUUpZ9IT499ykhaP~S4lBdWW022XYmYC~GwhFizyWpCt6IUH0hOGp1hdanH~F23W2Q0K~7oVTce6P7NRG158gmE8HiorIkLMGE4ygHQsAoRW99MX0ybk21r26LaXt62vBA4n1DEOm4evv4KLYLrtkAuFFGkpIoSHFPmF1RRVe1yjMoAFceFaAto1l0BYnjybxsZnECyHk6xNgUZFZ5VzjbKF3p2xeSB21tSdXChgPzzTYxFcCyBvhgyyqpCABibtlty_76AYG7ij5Qzw~F09ZED_CToj1DqPQBlYbCvEvSbJkFX_KHB8MKrIUf0~D4AhirGAxMB~1hp79ubPcm1CAls0Pk9M6N5D0WVNBhr_aD~fdnbL9m~Y2FwynDh4nca13ImVwrRb5U4iw~DCFiswQ5r13wHG3QQEBBszg~ebqJj66SZ8bu~1831124PljzpuXAzwR~DEAvjqFZjdiI3lU_i6DpxgpVbP5G9DFIePOuje66mhX7bgs9vCEqNjelb4_V_E6J_2_R0igl61y~PxNr2HA0zcxiLftpVm8FKMT4IHOkh1D2mPHuovL42QxjBagqmY43ane8LosG46Ad2OdUZ890i8Y~5BEyohcJ2m6QySsGIhW2QGpFMAALXP57353lsfxJXFkUkXll06Pm2u0mcg_nY~O2Zu40XRhylGCLSz6dPNKkH3MIyP_QRCy5DahKgU2rFY197xw2X5FLR84IX_bQ51NEB6ysupZRVuhm8AbxStxC7Ze2i3e4cVYWy81f5HcWFacmZ4zbqbvIA_n05RsDU5IRIZlBLuvwqsdpw~5h_9~DpIrYm2ahmKp0b5KcBX2KNCrj27e0g6josNQVX6EyYp33iB7Wa6XrLZVhMBlrF14sF3RHD6m5Z_h9L5mm7h8MJf5EOezS28uY58zjRyCb4phH00sC~r2CnSM1dAPXSIAe0FACqXGc26vgfYxpgdB11M3HeZoCKuj1Vp_xWKIVKyBtSgwW990e04_cWRu_sGisB0~39xp4kDjDjuqTkjK0EZDXe7FGJJC6z2V4JBWcQVW0CATvEWjBjBhF~orHp~1zPo9OeoHe2bTDF1MJFAsKIoeK5tJWA5E9~5WBqwfDyt9Eu57mg4BFTBgmY256mJFJi7W2B0ahEycvPHk8PtEt8HREA~Bf0q98SuWSUCUVjiKsuUtO7vp7UXJVb4AATD_IWif4DS4Mn7K_h48Bx4P76qv9fq4b36vGeo0cbDvAtoGWhUFVhqCdgY3w7sH6iE5DvcTu2o9JAZIfJdluN5qEXGD~zwfmBi9beullyleNfBTPwXWT8IZ0Ci491UhebvQFBhaPJesEqaF2qav7j0v~g8dmxRkbF3~c3Wu9ibKjbEJEK90VAHvT9P1K5HEj_yqnM6JC1zrIZWVK3knRyV6y4XF4SCU5iypARd5A34zEKaAafDwUsBg54u2i02sNA3vzkvD2NMOIAjhI7S6EKhpaqiuwCAJdPw2hCU5WBZVDGvkq5sV0gR7HOFCIrkCCGaeAUmH762UV4EA9LqRS9DlEFqJGTdF1cHlPlkAeQN8xkPCW3HqOr8Vy4WZFRX5R69ZwZOQk6UjCZeafasUFNZFm8RAWlnajk88OYVFc_sR70gixdCclKnN0HKun4K3oSwEM4RWL0N84_0pAcCESt187CL1~Y1aEf5m5AtyW6hw7CZ6h2p_npuPem30ZgsQLlir71O7oxy928CDAPSCpGOF76Z6~J_0v18PHm8_Dscs3qyXy9QwW2n~IIxL3by2zFgRIMo5DWA_8FWCD23e44S0FKY4_2hfz3iEFWSkF3RtlAsOHZ_5~VfZAamvuWCX3wJzLtqm7A0A~3qZkR~Q0BJr8TSxeQT9kF1D2NAN2D2AAYN9ETVEP7otQl6x_Fz31YUTVf1uX9w0qfcp6tQE7tFv0s60FdyxU7XMQEiUStUjAB1lO2YnmZh56KL3G0pgWP9n~x5avYa4vBKZqwd_vicg5657klraw_j8247~xbTvYA4d31dbVx9aQCUR49rCFdoM3~xHJ1Y58KxCx4u9MFRveQ5nEVP9oCUBKDV3l8ROqCHu3yYSiYcKg8o4gS19fKNPjP3IjuFyi2ZEc5LphC2zhqdu36vtwoWfuRH5sSizgcNd_10iMozn24HCg81tvwdPUTLY4Yz8sjTXCxz5LzOR0BKxPL9kTHXS9on_V7pwcpN7nqHO8RoVkxyaCe17~DhFbkfZGC105H2fvatlb5Iu9K~yoSXW4zwP420URjYFzSzwoSACQB4csbrsF_37M17TAh6A6C4bFNLEpJ91aJI8j1je2HQTw~5lMbEuOIP8dAxBGc~1DucjDfvZLbxUnoX4f5FfmWGXZ79~7~U8nVnQe1qpZZOp4jrD1NrtrNocGzU4VcJB9QVBc27AA2lFE7jUNBau4AcbksVoDwaUJia76T1Dqs4WNPkQ~b7TkasXio_La5jCwXkEum78A8kPWjkSDmLF3f1yg0PIHiF3ZdRp0OKKpANKn_WF_soaDqeVd2sHKxW1g_wB_OciUK6jBDMHfWDIpBMsIv5tDvL8BBWaFetjnvGBRoqko~BHl8E8CsRD9bMQ9EPFHjerCl480WhkXnxKdGv1XQUgvPS53b0G28yJ412TL327fCJWvM~73kPkFA~VjFX6Z1O5AGxAJiEYtI2hSm7NZ3GChblWkyYd8H4wA0s3au_6Q9AaC2kDF_4tsJ756gkVtBGqE2ee4vRCFSIy1PDtqGf4EngcLzTFiv1558WO9t2TP0wYymlEylks76HM0uhY2fR1TOufOFxdrG1MNC1rTqPsWBtpS~N5ob7~9fXS3yp865l4SDrNG7UgOJE9MW9R285g5AH5sP~16gnU02tuKNJpo4S6p2CYjfAFbi7RJia3c3VwVDgmxKVIq6Ol082anqjEgzv8CcxN8g4mGl82jBkMT3aKzD7_hokP3sAh9DyRGIo4cNXC6EqkUnv0bz2kRm8kNMOgnAR5sBC2necFBQDzWjC4kZm8XxKqMVHHEC3GRrytlGpI~7XMhbNz3nvc6_pp1NPKUGJAi1O3Wbu~TD44xV9NyTTNl5PzF8tbSTj70IXYko~n3F31VpEuMCfaza1HQZs0ffsf33MyztbF5Fe5Btz7TGl_p_C5Kfo8IlzmCf32ky_FsHqYOFZ_8i40z4ITD0xAeFIoN4800VTFCQXf2dB80ARD9FzXS4U4_mx2tqxy766BK0N7V0uApEZDDRhScsAy6z2a4H6do2kVI9Ax~1_D0AnL7HxS49kBL2GPLFCoPOE2pQeiEDaYv6CHAm3mxBSf82qpS_yb1QM9dtp_8S6rTA839uudLWUaqBPgJ_CePHZC3mNg1JUHBWr5i~Mdq2wKVi6B5n4GIbUwr6a_FYFqNMN495rQCpmFf583zrkDyAw~X~ASpwUFy4iEdAHn2EAw7_KA8QymYvKKZzZAg6chyvw92rB0W8mcTgRhyF4m_lbEiO4u2woTtts9GyuEc13CFcAX~_BhnNbvXAOp25r0xHAr8keh4YcmvRzgw2P7xdFs~4Q~CU2zBvBMV9Qh5CizWg_CmGO_AL9Zbgs7md38Dujj6tUzU6D~6Zu5_6u0P9qH3Jgl25jU86ppXCGUL274SZ_K5jmbmc7sz9VFfhp923ayY9VZUsbM3fImR3y8by8FxLDybdUl1O8r~PDHR6SdREqXccH7oOYn03V6G6mvREU0LHxoJxlO6T0FM6EiCyJmME7noxA~qYF0973zmZ7rxC4DMZzLSdQkB39wisc_0YFQ8Aoqw9WLlHrB5x6V3n_09EK0NzrbfO8Kky8AuO4kJWXkT8U6cdtcUT2pEmDcB542mYeCp6IU~d666OAzKFa3Rn9dt0AHxERLr6tx8WK8Ibo65qY6j8hgjKQR9TFqu0FS9ZvK58eR5UtQYjyd0FPCSyNJnTC78lk3FTcoVhF9Ngn65QDCxCh0A_UICQQW6U0gQs0CjPU0sM1DUYQQwUCvy1n5g23Bl38T95Goc5wyD7mEFVuYybpAiimq241LNf81bkNoMXw7Z8LK13YqE1FC4aVzEtTiEZDDEoKV_vA1cr0fpiQDj7PAq2mmg9A86DndFDA~abPoBIY5D7WoA9~f3xFmMAZEXp49t473gB9Zzk0wCroxqVfDpLADm2Z_p5Ml0rEDmqI_rp~qd8HwfuCyH0D05izC68~i5c90eW1S28GJVJ3CopSiOB~N83p97OOWudSo2o_s6C6rBE~9pDYb8pZl6B4nb3EwkV3X98pjnuxO03la7~3QFWRgR0W9O6YtyCvAhP0evOGRZCWjC5ps65La7xjkE0lRrxkuyBJFIn2P65TWt_CNpGJoc4EiAFC7hs9o53y16gisNV8WONy6wWJsVY6t8gCQqGAWLEvBz3wQ35UYt_0F4gDhT0xBZ~b3ICOs5Cgsok6oZmG7WqvW~4up5dYiPioZ46YoAO4~x6n82rdpWbgGCVAgUcbWfHemTEwxu3InOydlF3Psfm~mT8H"
set_option bootstrap.genMatcherCode false
set_option genSizeOf false
set_option compiler.extract_closed false
local macro_rules | `(tactic| trivial) => `(tactic| first | rfl | exact .inl rfl | exact .inr rfl | exact .inr (.inl rfl) | decide +kernel | (intro _; rfl) | omega | exact ⟨rfl,rfl,rfl,by decide +kernel,rfl,by decide +kernel,by decide +kernel⟩ | (intro _ _ _ _ _ _ us hl; rcases us with _|⟨_,_|⟨_,_|⟨_,_|⟨_,_|⟨_,_|⟨_,_⟩⟩⟩⟩⟩⟩ <;> first | rfl | cases hl) | (intro _ _ _ _ h; cases h; subst_vars; rfl))
set_option hygiene false in
local macro_rules | `(tactic| ac_rfl) => `(tactic| ((try dsimp only);first|assumption|exact Inv.tk (by assumption)|exact Nat.succ_pos _|exact Nat.lt_of_lt_of_le (Inv.tk (by assumption)) (by assumption)|exact Nat.add_pos_left (Inv.tk (by assumption)) _|omega))
local macro_rules | `(()) => `(by trivial)
local macro_rules | `(#[$f:ident,$n:num,$xs,*]) => do let h ← `(_); let b ← `(by trivial); let mut a := Array.replicate n.getNat h; for x in xs.getElems do { match x.raw.isNatLit? with | some k => a := a ++ Array.replicate k h | none => a := a.push (if x.raw.isOfKind ``Lean.Parser.Term.hole then b else x) }; `(@$f $a*)
local macro_rules | `(⟨$xs,*⟩) => do let h ← `(_); let r ← `(rfl); let mut a := #[]; let mut c := false; for x in xs.getElems do { match x.raw.isNatLit? with | some 0 => { a := (a.push h).push r; c := true } | some _ => { a := a.push r; c := true } | none => a := a.push x }; if c then `(⟨$a,*⟩) else Lean.Macro.throwUnsupported
set_option hygiene false
local macro_rules | `(#v[$xs,*]) => do let mut r ← `(qd); for x in xs.getElems.reverse do { r ← `(#[qb,5,$x,$r,_]) }; return r
local macro_rules | `(%[$xs,*|$k]) => do let mut r ← `(#[qe,3,$k]); for x in xs.getElems.reverse do { r ← `(#[qc,5,$x,$r]) }; return r
local macro_rules|`(#[wT,$a,$b])=>`(#[wT,7,$a,$b])|`(#[Qo,$a])=>`(#[Qo,4,$a])|`(#[Qd,$a])=>`(#[Qd,3,$a,_])|`(#[qy,$a,$b,$c,$d])=>`(#[qy,9,$a,_,$b,$c,$d,_,_,_,_])|`(#[Q1,$a,$b,$c])=>`(#[Q1,2,$a,2,_,$b,$c,rfl,_,_])|`(#[zB,$a])=>`(#[zB,4,$a])|`(#[qr,$a,$b,$c])=>`(#[qr,8,$a,$b,$c,qA _])|`(#[kJ,$a])=>`(#[kJ,4,_,$a,_])|`(#[qp,$a])=>`(#[qp,4,$a])|`(#[xf,$a,$b,$c])=>`(#[xf,8,vb,rfl,$a,$b,$c,_])|`(#[qQ,$a,$b])=>`(#[qQ,2,$a,1,$b,rfl,Or.inl rfl,_])|`(#[qC,$a,$b,$c])=>`(#[qC,2,$a,4,$b,rfl,Or.inl rfl,$c,_,_])|`(#[QF,$a])=>`(#[QF,4,$a])|`(#[qB,$a])=>`(#[qB,5,$a])|`(#[xZ,$a,$b])=>`(#[xZ,6,vb,$a,$b])|`(#[qI,$a,$b,$c])=>`(#[qI,7,$a,$b,$c,(λ_ _=>rfl)])|`(#[qZ,$a])=>`(#[qZ,4,$a,_])|`(#[jY,$a,$b,$c,$d,$e,$f])=>`(#[jY,12,$a,$b,$c,$d,$e,$f,_,_,_,_,_])|`(#[xG,$a,$b,$c,$d,$e,$f,$g])=>`(#[xG,2,$a,(1),$b,9,$c,rfl,$d,$e,$f,$g,_])|`(#[X7,$a])=>`(#[X7,4,$a])|`(#[qY,$a,$b,$c])=>`(#[qY,8,$a,$b,$c])|`(#[qG,$a,$b,$c])=>`(#[qG,8,$a,$b,$c])|`(#[qu,$a,$b,$c:ident,$d])=>`(#[qu,16,$a,$b,_,$(Lean.mkIdent (c.getId++`m)),$(Lean.mkIdent (c.getId++`F.kp)),$(Lean.mkIdent (c.getId++`b)),.nil,qz,$d,_,_,_])|`(#[yT,$a,$b,$c,$d])=>`(#[yT,8,$a,$b,$c,$d])|`(#[Q4,$a,$b,$c])=>`(#[Q4,8,$a,$b,$c])|`(#[pe_gR,$a])=>`(#[pe_gR,4,_,$a,_])|`(#[Ql,$a,$b,$c,$d])=>`(#[Ql,9,$a,_,$b,$c,$d,_,_,_,_])|`(#[Xn,$a,$b,$c,$d])=>`(#[Xn,10,$a,$b,$c,$d])|`(#[XT,$a])=>`(#[XT,3,$a])|`(#[Qt,$a,$b])=>`(#[Qt,6,QU hr,$a,$b,(λ_ _=>rfl)])|`(#[pe_and,$a,$b])=>`(#[pe_and,7,$a,$b])|`(#[Wv,$a])=>`(#[Wv,5,$a])|`(#[Qc,$a])=>`(#[Qc,8,pv 0,$a,rfl])|`(#[Jp,$a,$b,$c])=>`(#[Jp,9,QU hr,$a,$b,$c,rfl])|`(#[Qg,$a,$b,$c:ident,$d,$e])=>`(#[Qg,20,$a,$b,$(Lean.mkIdent (c.getId++`h)),$d,hr.mono (),$(Lean.mkIdent (c.getId++`b)),.nil,qz,$e,_,_,_])|`(#[QA,$a,$b,$c:ident,$d])=>`(#[QA,17,$a,$b,$(Lean.mkIdent (c.getId++`h)),$d,hr.mono (),$(Lean.mkIdent (c.getId++`b)),.nil,qz,_])|`(#[wA,$a])=>`(#[wA,6,rfl,$a,_,_])|`(#[pt_cmp,$a])=>`(#[pt_cmp,6,$a,_])|`(#[ZH,$a,$b])=>`(#[ZH,6,$a,$b,_,_,_])|`(#[Yy,$a])=>`(#[Yy,6,_,T.jA,$a,_])|`(#[wK,$a,$b,$c,$d:ident,$e,$f])=>`(#[wK,17,$a,$b,hr.mono (),_,$c,$(Lean.mkIdent (d.getId++`b)),.nil,$e,$f,_,_,_])|`(#[Xm,$a])=>`(#[Xm,9,qj,qh,$a])|`(#[w])=>`((by with_unfolding_all rfl))|`(#[X,X])=>`((model X.prog X.w))|`(#[w,w])=>`((model prog w))|`(#[Y,$a,$b])=>`((⟨$a,$b⟩:Sy.Ss (SyP qs)))|`(#[K,$a,$b,$c,$d,$e])=>`(FnOk P w K mg base CX0 $a $b $c $d $e)|`(#[K,$s:str])=>`((PySem.W.nsIn K mainGlobals $s))|`(#[K,$x,$s:str])=>`((PySem.W.findIn K (.ref $x) $s=some none))|`(#[0,$s:ident])=>`($(Lean.mkIdent (s.getId++`heap.objs.size)))|`(#[I])=>`(Inv X oq σ H s)|`(#[$f:ident,T])=>`($f (P:=P) (w:=w) (base:=base) T)|`(#[$f:ident,T,C])=>`($f (P:=P) (w:=w) (base:=base) T C)
local macro_rules|`(tactic|exists $es,*)=>do{let a:=es.getElems;match a[0]!.raw.isNatLit? with|some 2=>let b:=a.extract 1 a.size;`(tactic|intro oq s σ H $b*)|some 6=>let x:Lean.Ident:=⟨a[1]!.raw⟩;let y:Lean.Ident:=⟨a[2]!.raw⟩;`(tactic|obtain ⟨$x:ident,$y:ident⟩:=$(a[3]!) X G $(a[4]!) $(a[5]!) (by rfl'))|some 7=>`(tactic|try dsimp only [cxOf,Cx.nox])|some 3=>`(tactic|(refine ⟨_,$(a[1]!),?_⟩;(try dsimp only [cxOf,Cx.nox]);(try (apply cl_i (a:=K) (b:=a);intro _ _))))|some 4=>`(tactic|try (apply cl_i (a:=K) (b:=a);intro _ _))|some 5=>`(tactic|repeat (first|(with_reducible refine gN_ ?_)|(with_reducible refine seq_0 ?_;intro _ _ _)|(with_reducible refine if_C ?_;intro _ _)|(with_reducible refine while_C ?_;intro _ _)|(with_reducible refine for_C ?_;intro _ _)))|some 8=>let x:Lean.Ident:=⟨a[1]!.raw⟩;let y:Lean.Ident:=⟨a[2]!.raw⟩;`(tactic|((first|refine seq_oC ?_|((apply cl_i (a:=K) (b:=a);intro _ _);refine seq_oC ?_));intro _ _ $x $y _))|some 9=>let x:=Lean.mkIdent (a[1]!.raw.getId++`F.ok);let y:Lean.Ident:=⟨(a.getD 3 (Lean.mkIdent `hr)).raw⟩;`(tactic|refine $x $(a[2]!) (by trivial) (λ_ _ _ s H _ Q E $y h=>?_))|_=>let h←`(?_);let b:=if a.any fun x=>(x.raw.find? (·.isOfKind `Lean.Parser.Term.syntheticHole)).isSome then a else a.push h;`(tactic|((repeat (first|(with_reducible refine gN_ ?_)|(with_reducible refine seq_0 ?_;intro _ _ _)|(with_reducible refine if_C ?_;intro _ _)|(with_reducible refine while_C ?_;intro _ _)|(with_reducible refine for_C ?_;intro _ _)));refine ⟨$b,*⟩))}
set_option hygiene true
set_option hygiene false in
local macro_rules | `(tactic| rfl') => `(tactic| first | exact bo1 (fun _ _ _ _ _ _ _ => rfl) | exact bo2 (fun _ _ _ _ _ _ _ _ => rfl) | exact bo3 (fun _ _ _ _ _ _ _ _ _ => rfl) | exact bo4 (fun _ _ _ _ _ _ _ _ _ _ => rfl))
set_option hygiene false in
local macro_rules|`(tactic|erw [$rs,*])=>do{let rec f (e:Lean.Syntax):Nat->Lean.MacroM (Lean.TSyntax `Lean.Parser.Tactic.rcasesPatLo)|0=>`(Lean.Parser.Tactic.rcasesPatLo|_)|n+1=>do{if e.isIdent then{let x:Lean.Ident:=⟨e⟩;`(Lean.Parser.Tactic.rcasesPatLo|$x:ident)}else{match e with|`([$xs,*])=>do{let mut p:=#[];for x in xs.getElems do{p:=p.push (← f x n)};let q:=p;let t←`(rcasesPat|⟨$q,*⟩);`(Lean.Parser.Tactic.rcasesPatLo|$t:rcasesPat)}|_=>`(Lean.Parser.Tactic.rcasesPatLo|_)}};let mut p:=#[];let mut h:Array Lean.Term:=#[];for r in rs.getElems do{match r with|`(Lean.Parser.Tactic.rwRule|$e:term)=>{if h.size==0 then h:=h.push e else p:=p.push (← f e 9)}|_=>Lean.Macro.throwUnsupported};let q:=p;let g:=h[0]!;`(tactic|obtain ⟨$q,*⟩:=$g)}
local macro_rules|`([$a:term : $b:term])=>`(⟨$a,$b⟩)|`([$a:term : $b:term : $c:term])=>`(⟨$a,$b,$c⟩)
set_option hygiene false in
local macro_rules(kind:=Lean.Parser.Command.declaration)|x=>do{let d:=x[1];let h:=x[0];let k:=d.getKind;let s:=d[2][1][0];let p:=fun (n:Lean.Name) (f:Lean.Name) (t:Array Lean.Name)=>Lean.mkNode `Lean.Parser.Term.explicitBinder #[Lean.mkAtom "(",Lean.mkNullNode #[Lean.mkIdent n],Lean.mkNullNode #[Lean.mkAtom ":",if t.isEmpty then Lean.mkIdent f else Lean.mkNode `Lean.Parser.Term.app #[Lean.mkIdent f,Lean.mkNullNode (t.map fun u=>(Lean.mkIdent u).raw)]],Lean.mkNullNode,Lean.mkAtom ")"];let b:=fun l=>Lean.mkNullNode (d[2][0].getArgs++l);if k==`Lean.Parser.Command.inductive&&s[1].getId==`Sp then return x.setArg 1 (d.setArg 2 (Lean.mkNode d[2].getKind #[b #[p `vs `List #[`V],p `H `Hp #[],p `Q `VK #[],p `E_ `XK #[]],Lean.mkNullNode #[s.setArg 1 (Lean.mkNode `Lean.Parser.Term.prop #[Lean.mkAtom "Prop"])]]))else if k != `Lean.Parser.Command.definition then Lean.Macro.throwUnsupported else if h[6].getNumArgs>0 then return x.setArg 0 ((h.setArg 6 Lean.mkNullNode).setArg 4 (Lean.mkNullNode #[Lean.mkNode `Lean.Parser.Command.noncomputable #[Lean.mkAtom "noncomputable"]]))else if (h.find? (·.isAtom)).isSome||d[2][1].getNumArgs==0 then Lean.Macro.throwUnsupported else{let t:=s[1];let n:=t[1][0].getId;let o:=t[0].getAtomVal=="#["&&(n==`C||n==`T);let l:=if o then #[p `T `Tx #[`K,`mg,`a]]++(if n==`C then #[p `C `Fx #[`K,`w,`mg,`g,`a]]else #[])else #[];return x.setArg 1 (Lean.mkNode `Lean.Parser.Command.theorem #[Lean.mkAtom "theorem",d[1],Lean.mkNode `Lean.Parser.Command.declSig #[b l,if o then s.setArg 1 (t.setArg 1 (t[1].setArg 0 (Lean.mkIdent `K)))else s],d[3]])}}
noncomputable section
set_option Elab.async false
set_option linter.all false
set_option maxRecDepth 100000
set_option maxHeartbeats 4000000
open PySem.W renaming Frag->o0,mg_of->uP,kia_one->vo,callWith_K->UA
open PySem renaming Addr->o3,Value->o6,Shared->o7,Heap->o8,Program->o9,World->og,Around->oh,wpAny_bind->A7,sizeLine_eq->uD,wpAny_pure->uF,boot_len->uK,wpAny_with_toks->v9,wpAny_truthy_bool->vv,wpAny_newObj_type->vw,wpAny_field->vy,wpAny_callSpecial?_slot->vz,mem_of_lookup->vB,wpAny_mono->vI,typeIs_str->vJ,call_meets->vK,wpAny_call_entry->vT,wpAny_passesOwn->U1,wpAny_seqItems->U6,tupleKind_room_in1->Ub,wpAny_setField_rec->Ud,wpAny_Call_Name_kw->Uz,wpAny_pyIter_list->UH,wpAny_rule->UI,wpAny_isInstance->UO,wpAny->UU,FuncData->UW,sizeLine->UX,starEach->UY,cLine->V3,compareOp->V4,backTo->V6,IsPair->V7,model->V8,Scope->V9,mainGlobals->Vc,sysModules->Ve,IsZip->Vk,binaryOp->Vl,getItem->Vm,codeAny->Vn,bindC->Vo,NameKind->Vp,wpAny_holding->Vq,bindL->Vr,assignEach->Vs,IsPart->Vt,unsetMember->Vw,sliceBounds->Vz,atKey->VB,pyNext->VC,rawInt->VF,assign->VG,valueAt->VJ,stored->VL,bindArgs->VM,field->VO,holding->VQ,callerA->VR,Result->VX,DictEntry->VY,wpAny_typeOf->V_,CmpOp->gR,attributeBase->gS,Keyword->gW,BindsTo->gX,tupleKind->gZ,Builtin->g_,Model->G9,keywordEach->Gb,bootBuiltins->Ge,backToKw->Gf,cellsFrom->Gg,swapsWith->Gk,limitOf->Gm,standAt->Go,Operator->Gr,behindInMarks->Gu,InCallC->Gx,subscripted->Gz,wpAny_standAt->GE,typeLookup->GJ,cellOf->GK,operate->GM,letOwnedTupleGo->GN,Params->GP,wpAny_attempt->GQ,closureFor->GS,getMethod->GW,pyIter->hV,storeName->hX,newList->h_,wpAny_load->He,wpAny_execs_nil->Hh,codeAny_mono->Hi,GenState->Hl,newFunctionEnv->Ht,wpAny_onRaise->Hw,wpAny_pyIter_tuple->Hy,wpAny_call->HG,inplaceOp->HI,wpAny_Name->HL,seqItems?->HW,compEnvC->HX,callWith->HY,call_meetsIn->H_,seq_tuple_add->tF,evalPart_none->tI,foldedSetIterable->tK,concat_meets->tL,slicePick->tO,seqIndex_of->tP,firstArgMember->tT,leaving->tU,PlainAttrs->tY,builtinsNs->t_,seqIndex_neg->T0,noFill_tuple_add->T4,strKind_is->T5,getAttr->T8,wpAny_newList->T9,setItem->Ta,IsRangeIter->Tf,evalPart_some->Tl,joinFit_length->To,wpAny_notIn_of->Ts,raiseAttrError->Tt,meets_str_split_sep->Tw,listOfItself->Tz,meets_str_split_not_found->TB,wpAny_comprehension_free->TC,codeAny_builtin->TK,wpAny_letGo->TL,wpAny_throw->TM,wpAny_updateSeq_pair->TR,getattributeRaised->TW,wpAny_Slice->TY,wpAny_loadName_cell->f_,wpAny_setField->F0,split_sep_max_tree->Fb,wpAny_loadName_local->Fc,wpAny_execs_cons->Fd,boundAndCalled->Fi,wpAny_assign_Name->Fo,wpAny_pyIter_zip->Fq,interactive->FC,wpAny_mkText->FI,builtinLookup_eq_fast->FQ,getAttrByItsOwn->FU,wpAny_isTrue_Compare1->rc,intBits_le_64->re,wpAny_sequenceKey->rp,typeLookup_type->rA,wpAny_pyNext_list_item->rD,wpAny_in_of->rE,wpAny_getItem_list_slice->rJ,attributeErrorLeaves->rK,wpAny_storeName_local->rP,meets_str_split_cannot_occur->rV,plainId_quiet->rX,wpAny_pyNext_list_end->rY,wpAny_Call_method->rZ,wpAny_of_eq->R8,pushCells_keeps->R9,wpAny_getItem_of->Rg
open List renaming mem_cons->Aa,mem_singleton->Ab,mem_append->Ac,mem_map->Ae,getElem?_eq_some_iff->Af,length_map->ue,mem_cons_of_mem->uh,mem_cons_self->ui,length_cons->um,getElem?_eq_getElem->uq,size_toArray->uw,map_append->uz,length_append->uA,map_cons->uB,not_mem_nil->uH,mem_append_right->uM,getElem?_map->uN,map_map->uU,getElem_mem->uY,find?_cons->vd,lookup_cons->ve,mem_nil_iff->vf,drop_eq_getElem_cons->vg,mem_append_left->vh,mem_of_getElem?->vi,take_of_length_le->vj,length_singleton->vm,all_cons->vq,filter_cons->vt,take_add_one->vD,nodup_nil->vG,length_take->vN,filterMap_cons->vO,append_nil->vQ,length_drop->vS,mem_of_find?_eq_some->U0,filterMap_cons_some->U2,map_nil->U3,eq_nil_of_length_eq_zero->U4,all_eq_true->U5,drop_of_length_le->U8,find?_eq_none->Ue,forIn_cons->Uh,nodup_cons->Uj,any_cons->Uk,sum_cons->Ul,getElem?_append_right->Um,getElem?_append_left->Uq,cons_append->Ur,take_length->Us,map_congr_left->Uu,all_map->Uw,length_nil->UD,all_append->UE,getLast?_cons_cons->UG,append_assoc->UJ,reverse_cons->UM,range->V1,Nodup->Vd,lookup->Vg,getD->Vx,length->VD,range'->gY,set->G7,find?_some->GR,map_id->Hg,zipWith_cons_cons->Hk,range_succ->Hm,mem_map_of_mem->Hn,map->Hq,filter_append->Hr,take_succ_cons->Hz,drop_zero->HH,of_mem_zip->HM,any_eq_false->tq,length_filter_le->tJ,any_map->tV,perm_append_comm->T1,range_succ_eq_map->T7,length_range->Te,forIn_nil->Ti,any_toArray->Tj,any_eq_true->Tp,getElem?_set_ne->Fk,getElem?_set_self->Fm,zipIdx_nil->Fp,length_replicate->Ft,all_nil->Fw,take_sublist->FA,cons_lt_cons_iff->FK,take_append_drop->FL,mem_of_mem_drop->FO,eq_nil_or_concat->FY,zipIdx_cons->rF,find?_append->rH,concat_eq_append->rO,mem_of_mem_take->R1,replicate->R6,getElem?_eq_none->Rb,getElem?_replicate->Rh,mem_cons->uG,mem_singleton->vW
open Bool renaming false_ne_true->uc,and_eq_true->uC,eq_iff_iff->vH,and_true->vU,false_eq_true->UB,true->v_,false->UT,or_eq_true->GV,and_false->HJ,true_and->HK,false_or->tS,and_self->Fu,and_assoc->FH,false_and->Ra
open PySem.Heap renaming get?_push_of_some->ug,lt_size->uI,get?_push_size->uJ,size_push->vn,SameBut->Gn,get?_update_other->HN,get?_update_self->Tb,FlyingW->rN
open Nat renaming le_refl->uj,le_trans->uQ,ne_of_lt->uR,zero_le->uW,lt_irrefl->vF,lt_of_le_of_lt->Uc,ne_of_gt->Ug,le_of_lt->UN,le_add_right->UP,log2_le_self->UQ,lt_of_lt_of_le->V5,lt_or_ge->Gh,le_succ->GT,lt_trans->hZ,zero_add->Hu,succ_pos->Hv,lt_succ_self->HZ,succ->tX,le_total->tZ,eq_zero_or_pos->Fn,le_of_eq->Fv,add_zero->FN,add_mul->FW,one_mul->r9,min_eq_left->rL,succ_le_succ->Rf
open Option.some renaming inj->uL,injEq->RM
open PySem.F renaming plainAttrs_str->uS,plainAttrs_list->vc,entry_str_split->vx,slot_str_split->vA,slot_list_append->vL,type_list_append->vM,slot_tuple_iterator_next->vR,args_str_split_2->vV,slot_str_join->vX,type_str_join->vY,type_str_split->Ua,args_tuple_add_2->Uv,entry_tuple_add->UC,slot_str_split->U9
open PySem.Around renaming in1_units->uT,under->tM,under_plainId->Tg
open PyProof.Rows renaming boot_isinstance->uV,slot_tuple_getitem->vC,boot_tuple->vE,callWith_type1->vP,boot_str->Ut,envOfC->U_,AllBare->Vv,IntsAre->VU,IsTup->gT,tail_any->GG,subscriptTail->GH,Subscript_->G_,boot_sum->HQ,boot_all->tm,StrsAre->tW,args_tuple_getitem->Tv,entry_tuple_getitem->FJ,subscriptTail_builtinR->rf,isTrue_plain->rh,tupleItemsOf_->rn,slicePart_none->rS,iadd_int->Rl,callWith_builtin1->RE
open PySem.PassesOwn renaming never->vb
open Array renaming length_toList->vk,size_append->tG,append_assoc->tH,toList_append->tN,toList->Td,getElem?_toList->Fz,size_push->FR
open Int renaming emod_lt_of_pos->vZ,emod_nonneg->Ui,toNat_natCast->T2
open PySem.Calls renaming callWith_builtin->U7,evalArgs_plain->Up,spliced_nil->HR,spliced_cons->tu,call_len_list->FS,Name_function_global->rm
open Sum.inr renaming inj->Uf
open Ne renaming symm->Uo
open PySem.SeqAt.EqAt renaming int_str->Ux,str_int->Uy,same->GZ,int_int->HV,str_str->tj,tuple_str->Tn,none_str->Tq,of_refs->TH,none_int->TU,str_none->Fy,int_tuple->FE,tuple_int->rW,str_tuple->r_,int_none->Re,bool_int->Rj,int_bool->Rk,none_tuple->Rs,str_bool->Ru,none_bool->RA,bool_bool->RC,bool_str->RG,bool_none->RK,tuple_none->RL
open List.cons renaming injEq->UF
open PySem.SeqAt.RcAt renaming tuples->UK,tuple_str->Rp,str_str->Rq,str_tuple->Rz
open Option renaming some->u_,none->US,isNone->GC,map_some->GU,isSome_none->Hj,isSome_map->Ho,map_eq_none_iff->HP,map->Fe,getD_none->FV
open Sum renaming inr->UV,inl->VZ
open PySem.Value renaming ref->UZ,str->Vj,none->Vy,int->VP,type->VW,bool->GY,float->HS,bytes->FB,isInt->rq,isStrOf->Rc
open PySem.Str renaming join->V0,length->VA,ofString->gU,empty->HU
open ToString renaming toString->V2
open PySem.SeqAt renaming EqAt->Va,in_listAt->TN,RcAt->T_,RcNeAt->Fa,in_tupleAt->rg
open PySem.NameKind renaming free->Vb,cell->VH
open PySem.Builtin.Str renaming strKind->Vf,occurrences->Gy
open False renaming elim->Vh
open True renaming intro->Vi
open ForIn renaming forIn->Vu
open Or renaming inr->VI,inl->Gi
open PySem.StrLaws renaming occBody->VN,partsFrom->GD,glued_eq_join->TD,strSub_toList->Fj,joinTotal->FX,occ_eq->F_
open PySem.Txt renaming startswith->VS,slice->GX,slice_le->rR
open PySem.Builtin.SmallTypes renaming nextOf->VT,ownedTupleIsFree->GO,ownedTupleHandOut->rQ
open Unit renaming unit->gV
open ForInStep renaming yield->G6
open PySem.Obj renaming mapSeq->Gj,data_mapFields->FG,mapFields->FT
open PyProof.Rows.IsTup renaming new->Gq
open Nat.le renaming dest->GB
open PySem.Builtin.Tuple renaming tupleExact->GF,tupleItemsOf->Tc,tupleIsExact->RB
open PySem.Builtin.Slice renaming slicePlaces->GL,sliceAdjust->tQ,sliceApplied->R7,slicePartIndex->Rv,sliceFields->RD
open PySem.Code renaming isFrame->tt,frames->Fg
open List.Sublist renaming refl->tD,append->TV,map->rB
open PySem.Builtin.List renaming listTooLong->tR
open LawfulMonad renaming pure_bind->T6
open List.Nodup renaming sublist->Tu
open PySem.Heap.SameBut renaming update->TF
open PySem.Heap.IsSliceOf renaming new->TJ
open PySem.SeqAt.RcNeAt renaming tuples->TQ,tuple_str->Ri,str_str->Rm,str_tuple->RH
open PySem.Walks renaming strWide->TX,strAscii->rT
open List.Pairwise renaming nil->Ff,map->RJ
open Classical renaming choose_spec->Fs
open PySem.Builtin.Dict renaming updateFrom->FD,selfAndRest->Rx
open PySem.DictEntry renaming refKey->rC
open PySem.Shared renaming heap->rG
open PySem.Heap.DictOf renaming new->rM
open PySem.Heap.Ns1 renaming of_empty->Ro
open PySem.Builtin.Range renaming rangeSize->Rr
open Int.ofNat renaming inj->Rt
open PySem.Heap.IsList renaming push->Ry
open PySem.AutoSeq1 renaming list_extend_list_list_0->RF
open PySem.MeetsSeq renaming list_pop_last->RI
noncomputable abbrev oj:=List
noncomputable abbrev om:=Option
nonrec def A4:=@if_neg
nonrec def A6:=@if_pos
nonrec def A8:=@absurd
nonrec def A9:=@congrArg
nonrec def ud:=@decide_eq_true
nonrec def uf:=@decide_eq_false
nonrec def uu:=@of_decide_eq_true
nonrec def uO:=@or_false
nonrec def uX:=@decide_eq_decide
nonrec def uZ:=@decide_eq_true_eq
nonrec def UL:=@not_false_eq_true
nonrec def UR:=@not_or
namespace L2
open PySem PySem.Spec PyProof.Rows
noncomputable abbrev Key:=Sum Int Str
nonrec def ot:Key->o6->Bool
 | .inl k,v=>rq k v
 | .inr x,v=>Rc x v
nonrec def Abr (w:og):Key->Int
 | .inl k=>hashInt k
 | .inr x=>hashStr w x
def Qu:∀{k:Key}{v:o6},ot k v=v_->(∃i t,k=VZ i/\v=VP i t)∨(∃x t,k=UV x/\v=Vj x t)
 | .inl i,v,h=>by
  erw[Value.isInt_shape (k:=i) (v:=v) h,t,e];exact .inl ⟨i,t,1,e⟩
 | .inr x,v,h=>by
  erw[Value.isStrOf_shape (x:=x) (v:=v) h,t,e];exact .inr ⟨x,t,1,e⟩
def Dk (i:Int)(t:Tok):ot (.inl i) (.int i t)=true:=by simp[ot,rq]
def Dj (x:Str)(t:Tok):ot (.inr x) (.str x t)=true:=by simp[ot,Rc]
def Pp (a b:Int):decide ((VZ a:Key)=VZ b)=(a==b):=by
 by_cases e:a=b
 ·subst e;simp
 ·have h:¬(VZ a:Key)=VZ b:=λq=>e (Sum.inl.inj q);rw[uf h];exact(beq_eq_false_iff_ne.mpr e).symm
def Pm (a b:Str):decide ((UV a:Key)=UV b)=decide (a=b):=by
 by_cases e:a=b
 ·subst e;simp
 ·have h:¬(UV a:Key)=UV b:=λq=>e (Uf q);rw[uf h,uf e]
def Po (a:Int)(b:Str):decide ((VZ a:Key)=UV b)=false:=uf (λq=>nomatch q)
def Pn (a:Str)(b:Int):decide ((UV a:Key)=VZ b)=false:=uf (λq=>nomatch q)
nonrec def Qk (prog:o9)(w:og):PySem.KeyKind prog w Key where
 is:=ot
 hash:=Abr w
 inj:=λv a b ha hb=>by
  rcases Qu ha with⟨i,t,rfl,rfl⟩|⟨x,t,rfl,rfl⟩
  ·rcases Qu hb with⟨j,u,rfl,e⟩|⟨y,u,rfl,e⟩
   ·injection e with e1 _;rw[e1]
   ·exact nomatch e
  ·rcases Qu hb with⟨j,u,rfl,e⟩|⟨y,u,rfl,e⟩
   ·exact nomatch e
   ·injection e with e1 _;rw[e1]
 byValue:=λk v h=>by
  rcases Qu h with⟨i,t,rfl,rfl⟩|⟨x,t,rfl,rfl⟩<;>rfl
 pyHash:=λhv h=>by
  rcases Qu hv with⟨i,t,rfl,rfl⟩|⟨x,t,rfl,rfl⟩
  ·exact wpAny_pyHash_int h
  ·exact wpAny_pyHash_str h
 eqBool:=λhu hv h=>by
  rcases Qu hu with⟨i,t,rfl,rfl⟩|⟨x,t,rfl,rfl⟩
  ·rcases Qu hv with⟨j,u,rfl,rfl⟩|⟨y,u,rfl,rfl⟩
   ·rw[Pp] at h;exact wpAny_eqBool_int h
   ·rw[Po] at h;exact Ux i t y u _ _ _ _ h
  ·rcases Qu hv with⟨j,u,rfl,rfl⟩|⟨y,u,rfl,rfl⟩
   ·rw[Pn] at h;exact Uy x t j u _ _ _ _ h
   ·rw[Pm] at h;exact wpAny_eqBool_str h
 «strs»:=λk x t v h=>by
  rcases Qu h with⟨i,u,rfl,e⟩|⟨y,u,rfl,e⟩
  ·exact nomatch e
  ·injection e with e1 _
   subst e1
   cases v<;>rfl
def pS (prog:o9)(w:og)(i:Int)(t:Tok):(Qk prog w).is (.inl i) (.int i t)=true:=Dk i t
def ZT (prog:o9)(w:og)(x:Str)(t:Tok):(Qk prog w).is (.inr x) (.str x t)=true:=Dj x t
inductive V where
 |non|bl (b:Bool)|int (i:Int)|str (x:Str)|byt (b:Array UInt8)|flt (b:UInt64)|ref (a:Addr)|ty (n:String)
 deriving DecidableEq
nonrec def ik:V->o6->Prop
 | .non,u=>u=Vy
 | .bl b,u=>u=GY b
 | .int i,u=>∃t,u=VP i t
 | .str x,u=>∃t,u=Vj x t
 | .byt b,u=>∃t,u=FB b t
 | .flt b,u=>∃t,u=HS b t
 | .ref a,u=>u=UZ a
 | .ty n,u=>u=VW n
noncomputable abbrev im:oj V->oj o6->Prop:=Paired ik
variable {xs:oj V}{us:oj o6}
def im.length (r:im xs us):↑xs=↑us:=Paired.length r
def im.get:∀{xs:oj V}{us:oj o6}{i:Nat}{x:V},im xs us->xs[i]? =u_ x->∃u,us[i]? =u_ u/\ik x u
 |_,_,_,_,.nil,e=>by simp at e
 |_,_,0,_,.cons r _,e=>by simp at e;subst e;exact[0:r]
 |_,_,i+1,x,.cons _ t,e=>by
  obtain⟨u,h1,h2⟩:=im.get (i:=i) (x:=x) t (by simpa using e)
  exact⟨u,by simpa using h1,h2⟩
def im.set {x:V}{u:o6}(r:ik x u):∀{xs:oj V}{us:oj o6} (i:Nat),im xs us->im (xs.set i x) (us.set i u)
 |_,_,_,.nil=> .nil
 |_,_,0,.cons _ t=> .cons r t
 |_,_,i+1,.cons q t=> .cons q (im.set r i t)
def im.append:∀{xs ys:oj V}{us ws:oj o6},im xs us->im ys ws->im (xs++ys) (us++ws)
 |_,_,_,_,.nil,s=>s
 |_,_,_,_,.cons r t,s=> .cons r (im.append t s)
def im.take:∀{xs:oj V}{us:oj o6} (n:Nat),im xs us->im (xs.take n) (us.take n)
 |_,_,0,_=> .nil
 |_,_,_+1,.nil=> .nil
 |_,_,n+1,.cons r t=> .cons r (im.take n t)
def im.drop:∀{xs:oj V}{us:oj o6} (n:Nat),im xs us->im (xs.drop n) (us.drop n)
 |_,_,0,r=>r
 |_,_,_+1,.nil=> .nil
 |_,_,n+1,.cons _ t=>im.drop n t
nonrec def mX:om V->om o6->Prop
 |some v,u_ u=>ik v u
 |none,US=>True
 |_,_=>False
nonrec def KV {κ:Type}:oj (κ×V)->oj (κ×o6)->Prop:=Paired λ(p:κ×V) (q:κ×o6)=>p.1=q.1/\ik p.2 q.2
nonrec def kV:Key->V
 | .inl i=> .int i
 | .inr x=> .str x
inductive HO where
 |lst (xs:List V)
 |tup (xs:List V)
 |dK (kvs:List (Key×V))|dT (kvs:List (List Key×V))
 |set (S:Int->Bool)(n:Nat)
 |ins (C dx:Addr)(fs:List (Str×V))
 |own (x:Addr)
 |xd (fs:List (Str×V))
 |met (f x:Addr)
 |rng (lo hi:Int)
 |frz (o:Obj)(u:HO)
 |tbl (ps:Array Value)
 |ext (φ:Heap->Prop)
noncomputable abbrev Hp:=o3->om HO
nonrec def upd (H:Hp)(a:o3)(o:HO):Hp:=λb=>if b=a then u_ o else H b
variable {H:Hp}{a:o3}
def qg {o:HO}:upd H a o a=u_ o:=by unfold upd;rw[A6 rfl]
variable {b:o3}
def qk {o:HO}(h:b≠a):upd H a o b=H b:=by unfold upd;rw[A4 h]
def S7 {o u:HO}(h:H a=u_ o)(h':H b=u_ u)(d:o≠u):a≠b:=by
 intro e;subst e;rw[h] at h';exact d (uL h')
def ql {o:HO}(h:H a=u_ o)(h':H b=US):a≠b:=by
 intro e;subst e;rw[h] at h';cases h'
section
variable (P:o9)(w:og)
nonrec def yt (H:Hp)(h:o8)(a:o3):HO->Prop
 | .lst xs=>↑xs<=UX/\∃(its:oj o6) (n:Nat),im xs its/\h.get? a=u_ {cls:= .type "list",data:= .seq its.toArray n}
 | .tup xs=>↑xs<=UX/\∃its:oj o6,im xs its/\gT h a its.toArray
 | .dK kvs=>↑kvs<=UX/\(a==Ve)=UT/\∃vs,KV kvs vs/\h.DictOf (Qk P w) a vs
 | .dT kvs=>↑kvs<=UX/\(a==Ve)=UT/\∃xs:oj (oj Key×o3×o6),
   Paired (λ(p:oj Key×V) (q:oj Key×o3×o6)=>p.1=q.1/\H q.2.1=u_ (.tup (p.1.map kV))/\ik p.2 q.2.2) kvs xs/\
   ∃o es ep,h.get? a=u_ o/\o.ExactDict/\o.data= .dict es ep/\es.toList=xs.map (entryOfKey (gZ (Qk P w)))/\(xs.map (·.1)).Nodup
 | .set S n=>h.SetOf (intKind P w) a S n
 | .ins C dx fs=>H dx=u_ (.own a)/\↑fs<=1000/\dx≠a/\h.get? a=u_ (PySem.W.instObj C dx)/\
   ∃mA,h.Ns1 dx mA/\(∀f,mX (fs.lookup f) (mA f))/\PySem.Within mA (fs.map (·.1))
 | .own _=>∃o,h.get? a=u_ o
 | .xd fs=>∃mA,h.Ns1 a mA/\∀f,mX (fs.lookup f) (mA f)
 | .rng lo hi=>∃t u v,h.get? a=u_ {cls:= .type "range",data:= .fields #[.int lo t,.int hi u,.int 1 v]}
 | .frz o u=>h.get? a=u_ o/\yt H h a u
 | .tbl ps=>h.get? a=u_ {cls:= .none,data:= .fields ps}
 | .met f x=>h.get? a=u_ (PySem.W.methodObj (.ref f) (.ref x))
 | .ext φ=>φ h/\(∃o,h.get? a=u_ o)/\∀h1 h2:o8,φ h1->(∀o,h1.get? a=u_ o->h2.get? a=u_ o)->φ h2
nonrec def HOk (H:Hp)(h:o8):Prop:=∀a o,H a=u_ o->yt P w H h a o
end
section
variable {P:o9}{w:og}{H H':Hp}{h h':o8}{a:o3}{o:HO}
def yt.lt (x:yt P w H h a o):a<h.objs.size:=by
 cases o with
 |lst xs=>erw[x,_,_,_,_,e];exact uI e
 |tup xs=>erw[x,_,_,_,p];exact p.lt
 |dK kvs=>erw[x,_,_,_,_,o,_,_,e,_];exact uI e
 |dT kvs=>erw[x,_,_,_,_,o,_,_,e,_];exact uI e
 |set S n=>erw[x,o,_,_,_,e,_];exact uI e
 |ins C dx fs=>erw[x,_,_,_,e,_];exact uI e
 |own y=>erw[x,_,e];exact uI e
 |xd fs=>erw[x,_,[_,_,_,e,_],_];exact uI e
 |rng lo hi=>erw[x,_,_,_,e];exact uI e
 |frz ob u=>erw[x,e,_];exact uI e
 |tbl ps=>exact uI (show h.get? a=u_ _ from x)
 |met f y=>exact uI (show h.get? a=u_ _ from x)
 |ext φ=>erw[x,_,[_,e],_];exact uI e
def Paired.mapP {α β:Type}{F G:α->β->Prop}:∀{l₁:oj α}{l₂:oj β},Paired F l₁ l₂->(∀a b,F a b->G a b)->Paired G l₁ l₂
 |_,_,.nil,_=> .nil
 |_,_,.cons r t,f=> .cons (f _ _ r) (Paired.mapP t f)
def yt.stay (x:yt P w H h a o)(k:∀b u,(b=a∨H b=u_ (.own a))->h.get? b=u_ u->h'.get? b=u_ u)
  (O:∀b,H b=u_ (.own a)->H' b=u_ (.own a)) (U:∀b xs,H b=u_ (.tup xs)->H' b=u_ (.tup xs)):yt P w H' h' a o:=by
 induction o with
 |lst xs=>erw[x,z,its,n,r,e];exact⟨z,its,n,r,k _ _ (.inl rfl) e⟩
 |tup xs=>erw[x,z,its,r,ob,e,c];exact⟨z,its,r,ob,k _ _ (.inl rfl) e,c⟩
 |dK kvs=>erw[x,z,y,vs,r,ob,es,ep,e,c];exact⟨z,y,vs,r,ob,es,ep,k _ _ (.inl rfl) e,c⟩
 |dT kvs=>
  erw[x,z,y,xs,r,ob,es,ep,e,c];exact⟨z,y,xs,Paired.mapP r λp q z=>[z.1:U _ _ z.2.1:z.2.2],ob,es,ep,k _ _ (.inl rfl) e,c⟩
 |set S n=>erw[x,ob,es,ep,t,e,c];exact⟨ob,es,ep,t,k _ _ (.inl rfl) e,c⟩
 |ins C dx fs=>
  erw[x,d,z,ne,e,mA,[od,es,ep,Z,c],r];exact⟨O _ d,z,ne,k _ _ (.inl rfl) e,mA,⟨od,es,ep,k _ _ (.inr d) Z,c⟩,r⟩
 |own y=>erw[x,ob,e];exact[ob:k _ _ (.inl rfl) e]
 |xd fs=>erw[x,mA,[od,es,ep,e,c],r];exact[mA:⟨od,es,ep,k _ _ (.inl rfl) e,c⟩:r]
 |rng lo hi=>erw[x,t,u,v,e];exact⟨t,u,v,k _ _ (.inl rfl) e⟩
 |frz ob u ih=>erw[x,e,q];exact[k _ _ (.inl rfl) e:ih q]
 |tbl ps=>
  have e:h.get? a=u_ {cls:= .none,data:= .fields ps}:=x;show h'.get? a=u_ {cls:= .none,data:= .fields ps};exact k a _ (.inl rfl) e
 |met f y=>
  have e:h.get? a=u_ (PySem.W.methodObj (.ref f) (.ref y)):=x;show h'.get? a=u_ (PySem.W.methodObj (.ref f) (.ref y));exact k a _ (.inl rfl) e
 |ext φ=>erw[x,p,[o,e],st];exact[st _ _ p λo q=>k _ _ (.inl rfl) q:[o:k _ _ (.inl rfl) e]:st]
def HOk.lt (x:HOk P w H h)(e:H a=u_ o):a<h.objs.size:=(x a o e).lt
def HOk.fresh (x:HOk P w H h)(e:h.objs.size<=a):H a=none:=by
 cases q:H a with
 |none=>rfl
 |some u=>exact A8 (V5 (x.lt q) e) (vF _)
def HOk.kept (x:HOk P w H h)(k:∀b u,h.get? b=u_ u->h'.get? b=u_ u):HOk P w H h':=λa o e=>
 (x a o e).stay (λb u _ q=>k b u q) (λ_ q=>q) λ_ _ q=>q
def HOk.laid (x:HOk P w H h)(k:∀b u,h.get? b=u_ u->h'.get? b=u_ u)(U:h.objs.size<=a)(new:yt P w (upd H a o) h' a o):HOk P w (upd H a o) h':=λb u e=>by
 have hn:=x.fresh U;by_cases O:b=a
 ·subst O;rw[qg] at e;cases e;exact new
 ·rw[qk O] at e;exact(x b u e).stay (λc v _ q=>k c v q) (λc q=>by rwa[qk (ql q hn)]) λc xs q=>by rw[qk (ql q hn)];exact q
end
nonrec def Rd (H:Hp)(a:o3)(u:HO):Prop:=H a=u_ u∨∃o,H a=u_ (.frz o u)
def Rd.of {u:HO}(h:H a=u_ u):Rd H a u:= .inl h
variable {w:og}{h:o8}
def Rd.ok {P:o9}{u:HO}(r:Rd H a u)(x:HOk P w H h):yt P w H h a u:=by
 rcases r with r|⟨o,r⟩
 ·exact x a u r
 ·erw[x a _ r,_,q];exact q
nonrec def Mut:om HO->Prop
 |some (.lst _)=>True
 |some (.dK _)=>True
 |some (.dT _)=>True
 |some (.set _ _)=>True
 |some (.ins _ _ _)=>True
 |some (.ext _)=>True
 |_=>False
section
variable {P:o9}{w:og}{H:Hp}{h h':o8}{x e:o3}{o':HO}
def HOk.write (ok:HOk P w H h)(mu:Mut (H x))(he:e=x∨H e=u_ (.own x))(k:∀b u,b≠e->h.get? b=u_ u->h'.get? b=u_ u)(aa:∃u,h'.get? e=u_ u)
  (new:yt P w (upd H x o') h' x o'):HOk P w (upd H x o') h':=λb u q=>by
 have U:∀c y,H c=u_ (.own y)->c≠x:=λc y r z=>by subst z;rwa[r] at mu
 have Z:∀c xs,H c=u_ (.tup xs)->c≠x:=λc xs r z=>by subst z;rwa[r] at mu
 by_cases hb:b=x
 ·subst hb;rw[qg] at q;cases q;exact new
 ·rw[qk hb] at q;by_cases O:b=e
  ·have q':H b=u_ (.own x):=by
    rcases he with z|z
    ·exact A8 (O.trans z) hb
    ·rwa[O]
   rw[q] at q';cases q';erw[aa,v,hv];exact⟨v,by rwa[O]⟩
  ·refine(ok b u q).stay (λc v hc r=>k c v ?_ r) (λc r=>by rwa[qk (U c b r)]) λc xs r=>by rwa[qk (Z c xs r)]
   rcases hc with rfl|hc
   ·exact O
   ·rintro rfl;rcases he with z|z
    ·exact U c b hc z
    ·rw[hc] at z;cases z;exact hb rfl
end
structure Un (fs ex:oj o3)(H H':Hp)(h h':o8):Prop where
 keep:∀b o,h.get? b=u_ o->H b=US->b∉fs->b∉ex->h'.get? b=u_ o
 slot:∀b o,h.get? b=u_ o->H b=US->b∈fs->b∉ex->∃sl,h'.get? b=u_ {o with slots:=sl}
 free:∀b o,h.get? b=u_ o->H b=US->b∉ex->H' b=US
 there:∀b o,h.get? b=u_ o->b∉ex->∃o',h'.get? b=u_ o'
 tups:∀b xs,H b=u_ (.tup xs)->H' b=u_ (.tup xs)
 frzs:∀b o u,H b=u_ (.frz o u)->H' b=u_ (.frz o u)
 tbls:∀b ps,H b=u_ (.tbl ps)->∃more,H' b=u_ (.tbl (ps++more))
section
variable {fs fs' ex ex':oj o3}{H H1 H2:Hp}{h h1 h2 h':o8}{a x e:o3}{o:HO}
def Un.any (u:Un fs ex H H1 h h1){ob:Obj}(q:h.get? b=u_ ob)(n:H b=US)(O:b∉ex):∃sl,h1.get? b=u_ {ob with slots:=sl}:=by
 by_cases U:b∈fs
 ·exact u.slot b ob q n U O
 ·exact[ob.slots:u.keep b ob q n U O]
def Un.trans (a:Un fs ex H H1 h h1)(b:Un fs ex H1 H2 h1 h2):Un fs ex H H2 h h2 where
 keep:=λc ob q n Z O=>b.keep c ob (a.keep c ob q n Z O) (a.free c ob q n O) Z O
 slot:=λc ob q n Z O=>by
  erw[a.slot c ob q n Z O,sl,U];erw[b.slot c _ U (a.free c ob q n O) Z O,aa,e2];exact[aa:e2]
 free:=λc ob q n O=>by
  erw[a.there c ob q O,o',U];exact b.free c o' U (a.free c ob q n O) O
 there:=λc ob q O=>by
  erw[a.there c ob q O,o',U];exact b.there c o' U O
 tups:=λc xs q=>b.tups c xs (a.tups c xs q)
 frzs:=λc ob xs q=>b.frzs c ob xs (a.frzs c ob xs q)
 tbls:=λc ps q=>by
  erw[a.tbls c ps q,m1,U];erw[b.tbls c _ U,m2,e2];exact⟨m1++m2,by rw[e2,tH]⟩
def Un.kept (k:∀b u,h.get? b=u_ u->h'.get? b=u_ u):Un fs ex H H h h':=
 ⟨λb ob q _ _ _=>k b ob q,λb ob q _ _ _=>[ob.slots:k b ob q],λ_ _ _ n _=>n,λb ob q _=>[ob:k b ob q],λ_ _ q=>q,λ_ _ _ q=>q,λ_ ps q=>⟨#[],by rw[q];simp⟩⟩
def Un.refl:Un fs ex H H h h:=Un.kept λ_ _ q=>q
def Un.laid (k:∀b u,h.get? b=u_ u->h'.get? b=u_ u)(O:h.objs.size<=a)(hn:H a=US):Un fs ex H (upd H a o) h h' where
 keep:=λb u q _ _ _=>k b u q
 slot:=λb u q _ _ _=>[u.slots:k b u q]
 free:=λb u q n _=>by rwa[qk (uR (V5 (uI q) O))]
 there:=λb u q _=>[u:k b u q]
 tups:=λb xs q=>by rwa[qk (ql q hn)]
 frzs:=λb u xs q=>by rwa[qk (ql q hn)]
 tbls:=λb ps q=>⟨#[],by rw[qk (ql q hn),q];simp⟩
def Un.write (mu:Mut (H x))(he:e=x∨H e=u_ (.own x))(k:∀b u,b≠e->h.get? b=u_ u->h'.get? b=u_ u)(U:∃u,h'.get? e=u_ u):Un fs ex H (upd H x o) h h':=by
 have Z:∀b,H b=US->b≠x:=λb n z=>by subst z;rwa[n] at mu
 have hb:∀b,H b=US->b≠e:=λb n z=>by
  subst z;rcases he with r|r
  ·exact Z b n r
  ·rw[n] at r;cases r
 have hm:∀b u,H b=u_ u->¬Mut (u_ u)->b≠x:=λb u q nm z=>by subst z;rw[q] at mu;exact nm mu
 refine⟨λb u q n _ _=>k b u (hb b n) q,λb u q n _ _=>[u.slots:k b u (hb b n) q],λb u q n _=>by rwa[qk (Z b n)],λb u q _=>?_,
  λb xs q=>by rwa[qk (hm b _ q λz=>z)],λb u xs q=>by rwa[qk (hm b _ q λz=>z)],λb ps q=>⟨#[],by rw[qk (hm b _ q λz=>z),q];simp⟩⟩
 by_cases O:b=e
 ·subst O;exact U
 ·exact[u:k b u O q]
end
nonrec def trk (h:o8)(H:Hp):oj o3:=(V1 h.objs.size).filter λa=>(H a).isSome
nonrec def IF (h:o8)(H:Hp):o8:=PySem.W.hideAll h (trk h H)
def Dx (h:o8)(H:Hp):(IF h H).objs.size=h.objs.size:=PySem.W.hideAll_size _ _
variable {o:Obj}
def IE (e:h.get? b=u_ o)(n:H b=US):(IF h H).get? b=u_ o:=
 PySem.W.hideAll_get _ e λhm=>by
  have q:(H b).isSome=true:=(List.mem_filter.mp hm).2;rw[n] at q;simp at q
def MR (e:(IF h H).get? b=u_ o):h.get? b=u_ o/\H b=none:=by
 have O:h.get? b=u_ o:=PySem.W.of_hideAll (trk h H) e;exists O;cases q:H b with
 |none=>rfl
 |some x=>
  have hm:b∈trk h H:=List.mem_filter.mpr ⟨List.mem_range.mpr (uI O),by simp[q]⟩
  have z:(IF h H).get? b=none:=PySem.W.hideAll_none (trk h H) hm;rw[z] at e;cases e
structure Mod (K:o0)(mg:Str->om o6)(base:o8):Prop where
 kin:K.In base
 glob:base.Ns Vc mg
 blt:∃mb,base.Ns t_ mb/\∀x:Str,x≠"__name__"->mb x=Ge x
 nolimit:base.NoLimit
structure Cx where
 prog:o9
 w:og
 K:o0
 mg:Str->om o6
 base:o8
 A:oh
 N:oj Str
 s₀:o7
 H₀:Hp
 env:Env
 outer:oj Env
 stack:oj Env
 ex:oj o3
 fn:Str->Bool
 calm:Bool
 pn:oj (o3×Obj)
 xe:o6->o7->Prop
nonrec def frs (l:oj Env):oj o3:=l.filterMap (·.frame)
noncomputable abbrev Cx.fs (X:Cx):oj o3:=frs X.outer
nonrec def Vis (sc:V9)(x:Str):Prop:=sc.names.lookup x=u_ .local∨sc.names.lookup x=u_ .cell∨sc.names.lookup x=u_ .free
nonrec def Loc (sc:V9)(x:Str):Prop:=sc.names.lookup x=u_ .local∨sc.names.lookup x=u_ .cell
nonrec def Abz (env:Env)(h:o8)(m:Str->om o6)(x:Str)(u:o6):Prop:=
 (env.kindOf x=u_ .local/\m x=u_ u)∨((env.kindOf x=u_ .cell∨env.kindOf x=u_ .free)/\∃c,env.cells.lookup x=u_ c/\h.IsCell c (u_ u))
structure Cx.Ok (X:Cx):Prop where
 mod:Mod X.K X.mg X.base
 kind:X.env.scope.kind= .function
 glob:X.env.globals=Vc
 blt:X.env.builtins=t_
 above:X.s₀.heap.objs.size<=X.env.locals
 inj:∀x y c,X.env.cells.lookup x=u_ c->X.env.cells.lookup y=u_ c->x=y
 has:∀x,(X.env.kindOf x=u_ .cell∨X.env.kindOf x=u_ .free)->∃c,X.env.cells.lookup x=u_ c
 cab:∀x c,X.fn x=v_->X.env.cells.lookup x=u_ c->X.s₀.heap.objs.size<=c
 hd:X.calm=v_->X.A.handled=US
 frames:X.A.frames=u_ X.stack
 stk:X.stack=X.outer∨(X.stack=X.env::X.outer/\X.env.frame=u_ X.env.locals)
 exf:∀b∈X.ex,b≠X.env.locals/\∀x c,X.env.cells.lookup x=u_ c->c≠b
 bs:∀b o,X.base.get? b=u_ o->X.s₀.heap.get? b=u_ o/\X.H₀ b=US
 bsz:X.base.objs.size<=X.s₀.heap.objs.size
 noex:∀b o,X.base.get? b=u_ o->b∉X.ex
 exfs:∀b∈X.ex,b∉X.fs
 funs:X.s₀.heap.FunFrames X.base X.outer
 frf:∀b∈X.fs,X.H₀ b=US
structure Inv (X:Cx)(oq:oj (o3×Obj))(σ:oj (om V))(H:Hp)(s:o7):Prop where
 ok:X.Ok
 os:s.os=X.s₀.os
 bare:Vv s.gens
 base:Un X.fs X.ex X.H₀ H X.s₀.heap s.heap
 loc:∃m,s.heap.Ns X.env.locals m/\∀(i:Nat) (x:Str) (v:V),X.N[i]? =u_ x->σ[i]? =u_ (u_ v)->Vis X.env.scope x->∃u,ik v u/\Abz X.env s.heap m x u
 cell:∀x c,X.env.cells.lookup x=u_ c->∃v,s.heap.IsCell c v
 free:H X.env.locals=US
 freeC:∀x c,X.env.cells.lookup x=u_ c->H c=US
 pin:∀p∈X.pn++oq,s.heap.get? p.1=u_ p.2/\H p.1=US/\p.1≠X.env.locals/\p.1∉X.fs/\∀v,p.2.data≠ .cell v
 hok:HOk X.prog X.w H s.heap
 len:↑σ=↑X.N
 tk:0<s.toks
section
variable {X:Cx}{oq:oj (o3×Obj)}{σ:oj (om V)}{H H':Hp}{s:o7}{h':o8}
def Cx.Ok.nofr (ok:X.Ok)(e:X.base.get? b=u_ o):b∉X.fs:=λO=>by
 have:=(ok.funs.mem O).1;rw[e] at this;cases this
def Inv.bs (I:#[I]):∀b o,X.base.get? b=u_ o->s.heap.get? b=u_ o/\H b=none:=λb o e=>
 [I.base.keep b o (I.ok.bs b o e).1 (I.ok.bs b o e).2 (I.ok.nofr e) (I.ok.noex b o e):I.base.free b o (I.ok.bs b o e).1 (I.ok.bs b o e).2 (I.ok.noex b o e)]
def Inv.bk (I:#[I]):∀b o,X.base.get? b=u_ o->s.heap.get? b=u_ o:=λb o e=>(I.bs b o e).1
def Inv.mod (I:#[I]):Mod X.K X.mg X.base:=I.ok.mod
def Inv.kIn (I:#[I]):X.K.In s.heap:=I.ok.mod.kin.keeps I.bk
def Inv.lt (I:#[I]):X.env.locals<#[0,s]:=let⟨_,hn,_⟩:=I.loc;hn.lt
def Inv.sz (I:#[I]):X.s₀.heap.objs.size<=#[0,s]:=uQ I.ok.above (UN I.lt)
def Inv.nofs (I:#[I])(h:#[0,s]<=a):a∉X.fs:=λO=>by
 erw[I.ok.funs.mem O,_,o,U,_];exact A8 (V5 (uI U) (uQ I.sz h)) (vF _)
def Inv.cne (I:#[I]):∀x c,X.env.cells.lookup x=u_ c->c≠X.env.locals:=λx c e z=>by
 erw[I.cell x c e,v,o,Z,hd];erw[I.loc,m,[o',es,ep,O,U,_],_];rw[z,O] at Z;cases Z;rw[U] at hd;cases hd
def Inv.funs (I:#[I]):s.heap.FunFrames X.base X.outer:=by
 have all:∀(l:oj Env),(∀b∈frs l,b∈X.fs)->X.s₀.heap.FunFrames X.base l->s.heap.FunFrames X.base l:=by
  intro l
  induction l with
  |nil=>intro _ _;trivial
  |cons env r ih=>
   intro hs hl;erw[hl,hk,[L,o,O,hn,ho,hd],hr];have U:L∈X.fs:=hs L (by unfold frs;rw[vO,O];exact ui)
   obtain⟨sl,e⟩:=I.base.slot L o ho (I.ok.frf L U) U λz=>I.ok.exfs L z U;exact⟨hk,⟨L,_,O,hn,e,hd⟩,ih (λb Z=>hs b (by unfold frs;rw[vO,O];exact uh _ Z)) hr⟩
 exact all X.outer (λ_ Z=>Z) I.ok.funs
def Inv.stack (I:#[I]):s.heap.FunFrames X.base X.stack:=by
 rcases I.ok.stk with e|⟨e,O⟩
 ·rw[e];exact I.funs
 ·rw[e];erw[I.loc,m,hn,_];refine .cons (by rw[I.ok.kind];decide) O hn ?_ I.funs
  exact Heap.get?_none_of_le (uQ I.ok.bsz I.ok.above)
def Inv.stkSub (I:#[I]):∀b∈frs X.stack,b∈X.env.locals::X.fs:=λb O=>by
 rcases I.ok.stk with e|⟨e,U⟩
 ·rw[e] at O;exact uh _ O
 ·rw[e] at O;unfold frs at O;rwa[vO,U] at O
def Inv.stkFree (I:#[I]):∀b∈frs X.stack,H b=none:=λb O=>by
 rcases Aa.mp (I.stkSub b O) with e|O
 ·rw[e];exact I.free
 ·erw[I.ok.funs.mem O,_,o,U,_];exact I.base.free b o U (I.ok.frf b O) λz=>I.ok.exfs b z O
def Inv.step {g':Array Hl}{t':Nat}{d':Drawn}{ch:oj o3}(I:#[I])
  (U:∀b∈ch,(b∈X.ex∨X.s₀.heap.objs.size<=b)/\b≠X.env.locals/\(∀x c,X.env.cells.lookup x=u_ c->c≠b)/\∀p∈X.pn++oq,p.1≠b)
  (keep:∀b o,b≠X.env.locals->b∉X.fs->b∉ch->s.heap.get? b=u_ o->H b=US->h'.get? b=u_ o)
  (slot:∀b o,b≠X.env.locals->b∈X.fs->b∉ch->s.heap.get? b=u_ o->H b=US->∃sl,h'.get? b=u_ {o with slots:=sl}) (free:∀b o,b∉ch->s.heap.get? b=u_ o->H b=US->H' b=US)
  (there:∀b o,b∉ch->s.heap.get? b=u_ o->∃o',h'.get? b=u_ o')
  (tups:∀b xs,H b=u_ (.tup xs)->H' b=u_ (.tup xs)) (frzs:∀b o u,H b=u_ (.frz o u)->H' b=u_ (.frz o u)) (tbls:∀b ps,H b=u_ (.tbl ps)->∃more,H' b=u_ (.tbl (ps++more)))
  (ns:∀m,s.heap.Ns X.env.locals m->h'.Ns X.env.locals m) (hok:HOk X.prog X.w H' h') (hg:Vv g') (ht:0<t':=by ac_rfl):
  Inv X oq σ H' {s with heap:=h',gens:=g',drawn:=d',toks:=t'}:=by
 have ad:∀b o,X.s₀.heap.get? b=u_ o->b≠X.env.locals:=λb o e=>uR (V5 (uI e) I.ok.above);have ac:∀b o,X.s₀.heap.get? b=u_ o->b∉X.ex->b∉ch:=λb o e O hb=>by
  rcases(U b hb).1 with z|z
  ·exact O z
  ·exact A8 (V5 (uI e) z) (vF _)
 have Z:∀x c,X.env.cells.lookup x=u_ c->∀v,s.heap.IsCell c v->h'.IsCell c v:=λx c e v ⟨o,ho,hd⟩=>by
  have aa:c∉ch:=λz=>(U c z).2.2.1 x c e rfl;by_cases hc:c∈X.fs
  ·erw[slot c o (I.cne x c e) hc aa ho (I.freeC x c e),sl,q];exact[_:q:hd]
  ·exact[o:keep c o (I.cne x c e) hc aa ho (I.freeC x c e):hd]
 exists I.ok,I.os,hg,⟨λb o e n hb O=>?_,λb o e n hb O=>?_,λb o e n O=>?_,λb o e O=>?_,λb xs e=>tups b xs (I.base.tups b xs e),λb o xs e=>frzs b o xs (I.base.frzs b o xs e),λb ps e=>?_⟩,?_,λx c e=>?_,?_,λx c e=>?_,λp hp=>?_,hok,I.len,ht
 ·exact keep b o (ad b o e) hb (ac b o e O) (I.base.keep b o e n hb O) (I.base.free b o e n O)
 ·erw[I.base.slot b o e n hb O,sl,e1];erw[slot b _ (ad b o e) hb (ac b o e O) e1 (I.base.free b o e n O),ae,e2];exact[ae:e2]
 ·erw[I.base.there b o e O,o',e1];exact free b o' (ac b o e O) e1 (I.base.free b o e n O)
 ·erw[I.base.there b o e O,o',e1];exact there b o' (ac b o e O) e1
 ·erw[I.base.tbls b ps e,m1,e1];erw[tbls b _ e1,m2,e2];exact⟨m1++m2,by rw[e2,tH]⟩
 ·erw[I.loc,m,hn,hl];exists m,ns m hn,λi x v e1 e2 e3=>?_;erw[hl i x v e1 e2 e3,u,r,l];exists u,r;rcases l with l|⟨k,c,e,z⟩
  ·exact .inl l
  ·exact .inr ⟨k,c,e,Z x c e _ z⟩
 ·erw[I.cell x c e,v,z];exact[v:Z x c e v z]
 ·erw[I.loc,m,[o,_,_,ho,_],_];exact free _ o (λz=>(U _ z).2.1 rfl) ho I.free
 ·erw[I.cell x c e,v,o,ho,hd];exact free c o (λz=>(U c z).2.2.1 x c e rfl) ho (I.freeC x c e)
 ·erw[I.pin p hp,e,n,ne,nf,d];have aa:p.1∉ch:=λz=>(U p.1 z).2.2.2 p hp rfl;exact⟨keep p.1 p.2 ne nf aa e n,free p.1 p.2 aa e n,ne,nf,d⟩
variable {t':Nat}
def Inv.un (I:#[I])(u:Un X.fs [] H H' s.heap h')(hok:HOk X.prog X.w H' h')(ht:0<t':=by ac_rfl):Inv X oq σ H' {s with heap:=h',toks:=t'}:=by
 erw[id I.loc,m,[o,es,ep,ho,r],_];obtain⟨sl,hL⟩:=u.any ho I.free (by simp)
 exact I.step (g':=s.gens) (d':=s.drawn) (ch:= []) (λ_ z=>nomatch z) (λb o _ U _ e n=>u.keep b o e n U (by simp)) (λb o _ U _ e n=>u.slot b o e n U (by simp)) (λb o _ e n=>u.free b o e n (by simp)) (λb o _ e=>u.there b o e (by simp)) u.tups u.frzs u.tbls (λm' hm=>by
  erw[hm,o',es',Z,O,r'];rw[ho] at O;cases O;exact⟨_,es',Z,hL,r'⟩) hok I.bare
def Inv.call {g':Array Hl}{t':Nat}{d':Drawn}{ch:oj o3}(I:#[I])(u:Un (frs X.stack) ch H H' s.heap h')(hok:HOk X.prog X.w H' h')(hg:Vv g')
  (U:∀b∈ch,(b∈X.ex∨X.s₀.heap.objs.size<=b)/\b≠X.env.locals/\(∀x c,X.env.cells.lookup x=u_ c->c≠b)/\∀p∈X.pn++oq,p.1≠b) (ht:0<t':=by ac_rfl):
  Inv X oq σ H' {s with heap:=h',gens:=g',drawn:=d',toks:=t'}:=by
 erw[id I.loc,m,[o,es,ep,ho,r],_];obtain⟨sl,hL⟩:=u.any ho I.free λz=>(U _ z).2.1 rfl;exact I.step (ch:=ch) U (λb o hL hb O e n=>u.keep b o e n (λz=>(Aa.mp (I.stkSub b z)).elim hL hb) O) (λb o _ _ O e n=>u.any e n O) (λb o O e n=>u.free b o e n O) (λb o O e=>u.there b o e O) u.tups u.frzs u.tbls (λm' hm=>by
  erw[hm,o',es',aa,Z,r'];rw[ho] at Z;cases Z;exact⟨_,es',aa,hL,r'⟩) hok hg
def Inv.turned {t':Nat}{it:o3}(I:#[I])(k:∀b o,b≠it->s.heap.get? b=u_ o->h'.get? b=u_ o)(hn:H it=US)(Z:it≠X.env.locals)
  (h1:it∈X.ex∨X.s₀.heap.objs.size<=it) (h2:∀x c,X.env.cells.lookup x=u_ c->c≠it) (h3:∀p∈X.pn++oq,p.1≠it) (ht:0<t':=by ac_rfl):Inv X oq σ H {s with heap:=h',toks:=t'}:=by
 have U:∀b u,H b=u_ u->b≠it:=λb u e z=>by rw[z,hn] at e;cases e
 refine I.step (g':=s.gens) (d':=s.drawn) (ch:= [it]) (λb hb=>?_) (λb o _ _ O e _=>k b o (λz=>O (by simp[z])) e) (λb o _ _ O e _=>⟨o.slots,k b o (λz=>O (by simp[z])) e⟩) (λ_ _ _ _ n=>n)
  (λb o O e=>⟨o,k b o (λz=>O (by simp[z])) e⟩) (λ_ _ e=>e) (λ_ _ _ e=>e) (λb ps e=>⟨#[],by rw[e];simp⟩) (λm hm=>?_) (λb u e=>?_) I.bare
 ·have e:b=it:=by simpa using hb
  subst e;exact⟨h1,Z,h2,h3⟩
 ·erw[hm,o,es,ep,ho,r];exact⟨o,es,ep,k _ o (Uo Z) ho,r⟩
 ·refine(I.hok b u e).stay (λc v O q=>k c v ?_ q) (λ_ q=>q) λ_ _ q=>q;rcases O with z|z
  ·rw[z];exact U b u e
  ·exact U c _ z
def Inv.tok (I:#[I])(t:Nat)(O:0<t:=by ac_rfl):Inv X oq σ H {s with toks:=t}:=I.un (h':=s.heap) (t':=t) Un.refl I.hok
def Inv.kept (I:#[I])(k:∀b u,s.heap.get? b=u_ u->h'.get? b=u_ u)(O:0<t':=by ac_rfl):Inv X oq σ H {s with heap:=h',toks:=t'}:=I.un (Un.kept k) (I.hok.kept k)
def Inv.laid {o:HO}(I:#[I])(k:∀b u,s.heap.get? b=u_ u->h'.get? b=u_ u)(O:#[0,s]<=a)(new:yt X.prog X.w (upd H a o) h' a o)(U:0<t':=by ac_rfl):
  Inv X oq σ (upd H a o) {s with heap:=h',toks:=t'}:=I.un (Un.laid k O (I.hok.fresh O)) (I.hok.laid k O new)
def Inv.write {x e:o3}{o:HO}{t':Nat}(I:#[I])(mu:Mut (H x))(U:e=x∨H e=u_ (.own x))(k:∀b u,b≠e->s.heap.get? b=u_ u->h'.get? b=u_ u)(O:∃u,h'.get? e=u_ u)
  (new:yt X.prog X.w (upd H x o) h' x o) (Z:0<t':=by ac_rfl):Inv X oq σ (upd H x o) {s with heap:=h',toks:=t'}:=I.un (Un.write mu U k O) (I.hok.write mu U k O new)
def Inv.pins_of {O:oj (o3×Obj)}(I:#[I])(h:∀p∈O,s.heap.get? p.1=u_ p.2/\H p.1=US/\p.1≠X.env.locals/\p.1∉X.fs/\∀v,p.2.data≠ .cell v):Inv X O σ H s:=
 ⟨I.ok,I.os,I.bare,I.base,I.loc,I.cell,I.free,I.freeC,λp U=>(Ac.mp U).elim (λz=>I.pin p (vh _ z)) (h p),I.hok,I.len,I.tk⟩
variable {j:Nat}{x:Str}
def Am {N:oj Str}(O:N.Nodup){i:Nat}(a:N[i]? =u_ x)(b:N[j]? =u_ x):i=j:=by
 erw[Af.mp a,h1,U];erw[Af.mp b,h2,Z];exact(List.getElem_inj O).mp (U.trans Z.symm)
def nh {M:G9}{A:oh}{E:o6->o7->Prop}{i:Nat}{x:Str}{v:V}{u:o6}{Q:Unit->o7->Prop}(I:#[I])(hN:X.N.Nodup)(hi:X.N[i]? =u_ x)(hx:Loc X.env.scope x)(r:ik v u)
  (h:∀s',Inv X oq (σ.set i (u_ v)) H s'->(∃a,Gn a s.heap s'.heap/\(a=X.env.locals∨X.env.cells.lookup x=u_ a))->Q gV s') (hf:X.fn x=v_∨X.env.scope.names.lookup x=u_ .local:=by first|exact .inl rfl|exact .inr rfl|assumption):UU M A (hX X.env x u) Q E s:=by
 erw[id I.loc,m,hn,hl];have ad:(X.env.scope.kind== .class||(X.env.scope.kind== .module&&X.env.locals !=X.env.globals))=false:=by rw[I.ok.kind];rfl
 have ae:i<↑σ:=by rw[I.len];exact(Af.mp hi).1
 have cne:=I.cne;have U:∀{a:o3}{h':o8},(∃o,s.heap.get? a=u_ o/\H a=US)->Gn a s.heap h'->HOk X.prog X.w H h':=λ{a h'} ha O b ob e=>by
  erw[ha,_,_,aa];refine(I.hok b ob e).stay (λc w' hc q=>(O.2 c ?_).trans q) (λ_ q=>q) λ_ _ q=>q;rintro rfl;rcases hc with rfl|hc
  ·rw[aa] at e;cases e
  ·rw[aa] at hc;cases hc
 rcases hx with hk|hk
 ·refine rP hk hn (λh' al O=>?_) ad;erw[id hn,oL,_,_,am,_];refine h _ ⟨I.ok,I.os,I.bare,⟨λb o e n hb hx=>?_,λb o e n hb hx=>?_,I.base.free,λb o e hx=>?_,I.base.tups,I.base.frzs,I.base.tbls⟩,[_:al:λj y v' Z e2 e3=>?_],λy c e=>?_,I.free,I.freeC,λp hp=>?_,U [oL:am:I.free] O,by simpa using I.len,by first|exact I.tk|exact Hv _⟩ [_:O:.inl rfl]
  ·exact(O.2 b (uR (V5 (uI e) I.ok.above))).trans (I.base.keep b o e n hb hx)
  ·erw[I.base.slot b o e n hb hx,sl,Z];exact[sl:(O.2 b (uR (V5 (uI e) I.ok.above))).trans Z]
  ·erw[I.base.there b o e hx,o',Z];exact[o':(O.2 b (uR (V5 (uI e) I.ok.above))).trans Z]
  ·by_cases hj:j=i
   ·subst hj;rw[hi] at Z;cases Z;rw[Fm ae] at e2;cases e2;exact⟨u,r,.inl ⟨hk,by simp⟩⟩
   ·rw[Fk (Uo hj)] at e2;erw[hl j y v' Z e2 e3,u',r',q];exists u',r';rcases q with⟨k,e⟩|⟨k,c,e,z⟩
    ·refine .inl [k:?_];have:y≠x:=λe=>hj (Am hN Z (e▸hi));simp[this,e]
    ·exact .inr ⟨k,c,e,z.sameBut O (cne y c e)⟩
  ·erw[I.cell y c e,w',z];exact[w':z.sameBut O (cne y c e)]
  ·erw[I.pin p hp,e,n,ne,nf,d];exact⟨(O.2 p.1 ne).trans e,n,ne,nf,d⟩
 ·have ac:X.fn x=true:=by
   rcases hf with z|z
   ·exact z
   ·rw[z] at hk;cases hk
  erw[I.ok.has x (.inl hk),c,hc];erw[I.cell x c hc,w',z];refine wpAny_storeName_cell I.ok.kind hk hc z (λh' af O=>?_);erw[id z,oc,ag,ah];refine h {s with heap:=h'} ⟨I.ok,I.os,I.bare,⟨λb o e n hb hx=>?_,λb o e n hb hx=>?_,I.base.free,λb o e hx=>?_,I.base.tups,I.base.frzs,I.base.tbls⟩,[m:hn.sameBut O (Uo (cne x c hc)):λj y v' Z e2 e3=>?_],λy c' e=>?_,I.free,I.freeC,λp hp=>?_,U [oc:ag:I.freeC x c hc] O,by simpa using I.len,by first|exact I.tk|exact Hv _⟩ [c:O:.inr hc]
  ·exact(O.2 b (uR (V5 (uI e) (I.ok.cab x c ac hc)))).trans (I.base.keep b o e n hb hx)
  ·erw[I.base.slot b o e n hb hx,sl,Z];exact[sl:(O.2 b (uR (V5 (uI e) (I.ok.cab x c ac hc)))).trans Z]
  ·erw[I.base.there b o e hx,o',Z];exact[o':(O.2 b (uR (V5 (uI e) (I.ok.cab x c ac hc)))).trans Z]
  ·by_cases hj:j=i
   ·subst hj;rw[hi] at Z;cases Z;rw[Fm ae] at e2;cases e2;exact[u:r:.inr ⟨.inl hk,c,hc,af⟩]
   ·rw[Fk (Uo hj)] at e2;erw[hl j y v' Z e2 e3,u',r',q];exists u',r';rcases q with q|⟨k,c',e,z'⟩
    ·exact .inl q
    ·refine .inr ⟨k,c',e,z'.sameBut O ?_⟩;rintro rfl;exact hj (Am hN Z (I.ok.inj _ _ _ e hc▸hi))
  ·by_cases ak:c'=c
   ·subst ak;exact[_:af]
   ·erw[I.cell y c' e,w2,z2];exact[w2:z2.sameBut O ak]
  ·erw[I.pin p hp,e,n,ne,nf,d];exists (O.2 p.1 ?_).trans e,n,ne,nf,d;intro q;rw[q,ag] at e;have q':oc=p.2:=uL e;exact d w' (by rwa[<-q'])
def kQ {M:G9}{A:oh}{E:o6->o7->Prop}{i:Nat}{x:Str}{v:V}{u:o6}{Q:Unit->o7->Prop}(I:#[I])(O:X.N.Nodup)(hi:X.N[i]? =u_ x)(U:Loc X.env.scope x)(r:ik v u)
  (h:∀s',Inv X oq (σ.set i (u_ v)) H s'->Q gV s') (Z:X.fn x=v_∨X.env.scope.names.lookup x=u_ .local:=by first|exact .inl rfl|exact .inr rfl|assumption):UU M A (hX X.env x u) Q E s:=
 nh I O hi U r (λs' I' _=>h s' I') Z
def Inv.call' {s':o7}{ch:oj o3}(I:#[I])(U:s'.os=s.os)(u:Un (frs X.stack) ch H H' s.heap s'.heap)(hok:HOk X.prog X.w H' s'.heap)(Z:Vv s'.gens)
  (O:∀b∈ch,(b∈X.ex∨X.s₀.heap.objs.size<=b)/\b≠X.env.locals/\(∀x c,X.env.cells.lookup x=u_ c->c≠b)/\∀p∈X.pn++oq,p.1≠b) (ht:0<s'.toks:=by ac_rfl):Inv X oq σ H' s':=by
 erw[s',h',g',d',t',o'];have e:o'=s.os:=U;subst e;exact I.call (g':=g') (t':=t') (d':=d') u hok Z O
end
noncomputable abbrev XK:=o6->om o3->Hp->Prop
noncomputable abbrev St:=oj (om V)
noncomputable abbrev VK:=V->Hp->Prop
noncomputable abbrev TE:=St->Hp->VK->Prop
noncomputable abbrev TT:=St->Hp->(Bool->Hp->Prop)->Prop
noncomputable abbrev TA:=St->Hp->(oj V->Hp->Prop)->Prop
structure mP where
 nx:St->Hp->Prop
 rt:VK
 bk:St->Hp->Prop:=λ_ _=>False
 ct:St->Hp->Prop:=λ_ _=>False
noncomputable abbrev TS:=mP->St->Hp->Prop
nonrec def EP (X:Cx)(oq:oj (o3×Obj))(σ:St)(Q:VK)(u:o6)(s':o7):Prop:=∃v H',Inv X oq σ H' s'/\ik v u/\Q v H'
nonrec def TP (X:Cx)(oq:oj (o3×Obj))(σ:St)(Q:Bool->Hp->Prop)(b:Bool)(s':o7):Prop:=∃H',Inv X oq σ H' s'/\Q b H'
nonrec def AP (X:Cx)(oq:oj (o3×Obj))(σ:St)(Q:oj V->Hp->Prop)(us:oj o6)(s':o7):Prop:=∃vs H',Inv X oq σ H' s'/\im vs us/\Q vs H'
nonrec def SP (X:Cx)(oq:oj (o3×Obj))(D:mP)(f:Flow)(s':o7):Prop:=
 match f with
 | .next=>∃σ' H',Inv X oq σ' H' s'/\D.nx σ' H'
 | .brk=>∃σ' H',Inv X oq σ' H' s'/\D.bk σ' H'
 | .cont=>∃σ' H',Inv X oq σ' H' s'/\D.ct σ' H'
 | .ret u=>∃v σ' H',Inv X oq σ' H' s'/\ik v u/\D.rt v H'
nonrec def PE (X:Cx)(e:Expr)(t:TE):Prop:=
 ∀(oq:oj (o3×Obj)) (s:o7) (σ:St) (H:Hp) (Q:VK),#[I]->t σ H Q->UU #[X,X] X.A (eval e X.env) (EP X oq σ Q) X.xe s
nonrec def PT (X:Cx)(e:Expr)(t:TT):Prop:=
 ∀(oq:oj (o3×Obj)) (s:o7) (σ:St) (H:Hp) (Q:Bool->Hp->Prop),#[I]->t σ H Q->UU #[X,X] X.A (isTrue e X.env (eval e X.env)) (TP X oq σ Q) X.xe s
nonrec def PW (X:Cx)(e:Expr)(t:TT):Prop:=
 ∀(whole:Sem o6) (oq:oj (o3×Obj)) (s:o7) (σ:St) (H:Hp) (Q:Bool->Hp->Prop),#[I]->t σ H Q->UU #[X,X] X.A (isTrue e X.env whole) (TP X oq σ Q) X.xe s
variable {X:Cx}
def PW.pt {e:Expr}{t:TT}(h:PW X e t):PT X e t:=h _
nonrec def PA (X:Cx)(es:oj Expr)(t:TA):Prop:=
 ∀(pos:Pos) (oq:oj (o3×Obj)) (s:o7) (σ:St) (H:Hp) (Q:oj V->Hp->Prop),#[I]->t σ H Q->UU #[X,X] X.A (spliced (V6 pos (UY es X.env))) (AP X oq σ Q) X.xe s
nonrec def PS (X:Cx)(st:Stmt)(t:TS):Prop:=
 ∀(oq:oj (o3×Obj)) (s:o7) (σ:St) (H:Hp) (D:mP),#[I]->t D σ H->UU #[X,X] X.A (exec st X.env) (SP X oq D) X.xe s
nonrec def PSs (X:Cx)(st:oj Stmt)(t:TS):Prop:=
 ∀(oq:oj (o3×Obj)) (s:o7) (σ:St) (H:Hp) (D:mP),#[I]->t D σ H->UU #[X,X] X.A (execs st X.env) (SP X oq D) X.xe s
variable {A:oh}{s:o7}
def thn {α:Type}{t:Sem α}{Q O:α->o7->Prop}{M:G9}{E:o6->o7->Prop}(h:UU M A t Q E s)(U:∀a s,Q a s->O a s):UU M A t O E s:=vI h U λ_ _ x=>x
section
variable {X:Cx}
inductive Li (i:Nat)(σ:St)(H:Hp)(Q:VK):Prop
 |mk (v:_)(_:σ[i]? =u_ (u_ v))(_:Q v H)
nonrec def tC (v:V):TE:=λ_ H Q=>Q v H
variable {x:Str}{pos:Pos}
def OQ {i:Nat}(hN:X.N[i]? =u_ x)(hv:Vis X.env.scope x)(hd:(x==("__debug__":Str))=false:=by decide)(Z:(x==("__classdict__":Str))=false:=by decide):PE X (.Name x pos) (Li i):=by
 exists 2,Q,I,h;erw[h,v,e,h];erw[I.loc,m,hn,hl];erw[hl i x v hN e hv,u,r,l];have fin:EP X oq σ Q u s:=⟨v,H,I,r,h⟩;rcases l with⟨U,hm⟩|⟨U,c,hc,O⟩
 ·exact HL (Fc I.ok.kind U hn hm fin) hd
 ·rcases U with U|U
  ·exact HL (f_ I.ok.kind U hc O fin) hd
  ·exact HL (wpAny_loadName_free I.ok.kind U hc O fin Z) hd
def qh {i j pos}:PE X (.Constant (.int i) j pos) (tC (.int i)):=λ_ _ _ H _ I h=>wpAny_Constant_int ⟨.int i,H,I.tok _,⟨0⟩,h⟩
def jw {b j pos}:PE X (.Constant (.bool b) j pos) (tC (.bl b)):=λ_ _ _ H _ I h=>Constant_bool ⟨.bl b,H,I,1,h⟩
def qP {j pos}:PE X (.Constant .none j pos) (tC .non):=λ_ _ _ H _ I h=>Constant_none ⟨.non,H,I,1,h⟩
def qj {x j pos}:PE X (.Constant (.str x) j pos) (tC (.str x)):=λ_ _ _ H _ I h=>Calls.Constant_str ⟨.str x,H,I.tok _,⟨0⟩,h⟩
nonrec def Gl (X:Cx)(x:Str):Prop:=X.env.kindOf x=u_ .globalImplicit
def kr {E:o6->o7->Prop}{oq:oj (o3×Obj)}{s:o7}{σ:St}{H:Hp}{x:Str}{u:o6}{pos:Pos}{Q:o6->o7->Prop}(I:#[I])(O:Gl X x)(hm:X.mg x=u_ u)(h:Q u s)
  (hd:(x==("__debug__":Str))=false:=by decide):UU #[X,X] X.A (eval (.Name x pos) X.env) Q E s:=
 rm I.ok.kind O (Calls.loadGlobal_global (by rw[I.ok.glob];exact I.mod.glob.keeps I.bk) hm h) hd
def WF {E:o6->o7->Prop}{oq:oj (o3×Obj)}{s:o7}{σ:St}{H:Hp}{x:Str}{u:o6}{pos:Pos}{Q:o6->o7->Prop}(I:#[I])(O:Gl X x)(hm:X.mg x=US)(U:Ge x=u_ u)(h:Q u s)
  (hn:x≠"__name__":=by decide) (hd:(x==("__debug__":Str))=false:=by decide):UU #[X,X] X.A (eval (.Name x pos) X.env) Q E s:=by
 erw[I.mod.blt,mb,h1,h2];exact rm I.ok.kind O (Calls.loadGlobal_builtin (by rw[I.ok.glob];exact I.mod.glob.keeps I.bk) hm (by rw[I.ok.blt];exact h1.keeps I.bk) ((h2 x hn).trans U) h) hd
variable {v:V}{u:o6}
def pJ (O:Gl X x)(hm:X.mg x=u_ u)(r:ik v u)(hd:(x==("__debug__":Str))=false:=by decide):PE X (.Name x pos) (tC v):=
 λ_ _ _ H _ I h=>kr I O hm ⟨v,H,I,r,h⟩ hd
def Q1 {x:Str}{v:V}{u:o6}{pos:Pos}(O:Gl X x)(hm:X.mg x=US)(U:Ge x=u_ u)(r:ik v u)(hn:x≠"__name__")(hd:(x==("__debug__":Str))=UT):PE X (.Name x pos) (tC v):=
 λ_ _ _ H _ I h=>WF I O hm U ⟨v,H,I,r,h⟩ hn hd
variable {a b:Expr}{ta tb:TE}{pos:Pos}
nonrec def PC (X:Cx)(op:gR)(a b:Expr)(t:TE):Prop:=
 ∀(oq:oj (o3×Obj)) (s:o7) (σ:St) (H:Hp) (Q:VK),#[I]->t σ H Q->
  UU #[X,X] X.A (eval a X.env) (λv s₁=>UU #[X,X] X.A (eval b X.env) (λu s₂=>UU #[X,X] X.A (V4 op v u) (EP X oq σ Q) X.xe s₂) X.xe s₁) X.xe s
inductive ItB (Q:(Bool->Hp->Prop))(x:V)(H1:Hp):Prop
 |mk (c:_)(_:x= .bl c)(_:Q c H1)
nonrec def tB (t:TE):TT:=λσ H Q=>t σ H λx H1=>ItB Q x H1
def pt_cmp {O:gR}{t:TE}(h:PC X O a b t)(h1:Gu O b=UT):PT X (.Compare a [O] [b] pos) (tB t):=by
 exists 2,Q,I,U;refine rc (thn (h oq s σ H _ I U) λv s1 h1=>thn h1 λu s2 h2=>thn h2 λc s3 zq=>?_) h1;erw[zq,x,H1,Z,r1,q1];erw[q1,d,rfl,q];cases r1;exact vv [H1:Z:q]
def Qd {e:Expr}{t:TE}(h:PE X e t)(U:∀O,isTrue e X.env O=(do let v<-O;Go e.pos;VQ [v] (truthy v))):PT X e (tB t):=by
 exists 2,Q,I,Z;refine rh (thn (h oq s σ H _ I Z) λv s1 zq=>?_) (U _);erw[zq,x,H1,I1,r1,q1];erw[q1,d,rfl,q];cases r1;exact vv [H1:I1:q]
variable {tA tB':TT}{rest:oj Expr}
nonrec def Abb (t u:TT):TT:=λσ H Q=>t σ H λc H1=>if c=v_ then u σ H1 Q else Q UT H1
nonrec def tOr (t u:TT):TT:=λσ H Q=>t σ H λc H1=>if c=v_ then Q v_ H1 else u σ H1 Q
nonrec def Aa6 (t:TT):TT:=λσ H Q=>t σ H λc H1=>Q (!c) H1
def ki (ha:PT X a tA):PW X (.BoolOp .And [a] pos) tA:=by
 intro O oq s σ H Q I h;refine isTrue_and (thn (ha oq s σ H Q I h) λc s1 e=>?_);cases c with
 |true=>exact isTrue_and_nil e
 |false=>exact e
def zB (ha:PT X a tA):PW X (.BoolOp .Or [a] pos) tA:=by
 intro O oq s σ H Q I h;refine isTrue_or (thn (ha oq s σ H Q I h) λc s1 e=>?_);cases c with
 |false=>exact isTrue_or_nil e
 |true=>exact e
def s9 (ha:PT X a tA)(U:PW X (.BoolOp .And (b::rest) pos) tB'):PW X (.BoolOp .And (a::b::rest) pos) (Abb tA tB'):=by
 intro Z oq s σ H Q I h;refine isTrue_and (thn (ha oq s σ H _ I h) λc s1 zq=>?_);erw[zq,H1,O,q1];cases c with
 |true=>exact U Z oq s1 σ H1 Q O q1
 |false=>exact[H1:O:q1]
def wT (ha:PT X a tA)(U:PW X (.BoolOp .Or (b::rest) pos) tB'):PW X (.BoolOp .Or (a::b::rest) pos) (tOr tA tB'):=by
 intro Z oq s σ H Q I h;refine isTrue_or (thn (ha oq s σ H _ I h) λc s1 zq=>?_);erw[zq,H1,O,q1];cases c with
 |true=>exact[H1:O:q1]
 |false=>exact U Z oq s1 σ H1 Q O q1
def Qo (ha:PT X a tA):PT X (.UnaryOp .Not a pos) (Aa6 tA):=by
 exists 2,Q,I,h;exact isTrue_not (ha oq s σ H (λc H1=>Q (!c) H1) I h)
inductive RY (tb:TE)(σ:St)(Q:VK)(x:V)(H1:Hp):Prop
 |mk (c:_)(_:x= .bl c)(_:if c=v_ then tb σ H1 Q else Q (.bl UT) H1)
nonrec def SO (ta tb:TE):TE:=λσ H Q=>ta σ H λx H1=>RY tb σ Q x H1
inductive Aay (tb:TE)(σ:St)(Q:VK)(x:V)(H1:Hp):Prop
 |mk (c:_)(_:x= .bl c)(_:if c=v_ then Q (.bl v_) H1 else tb σ H1 Q)
nonrec def Aa5 (ta tb:TE):TE:=λσ H Q=>ta σ H λx H1=>Aay tb σ Q x H1
def Wv {op}{t:TE}(h:PE X a t):PE X (.BoolOp op [a] pos) t:=λoq s σ H Q I O=>BoolOp_one (h oq s σ H Q I O)
def pe_and (ha:PE X a ta)(U:PE X (.BoolOp .And (b::rest) pos) tb):PE X (.BoolOp .And (a::b::rest) pos) (SO ta tb):=by
 exists 2,Q,I,h;refine BoolOp_and (thn (ha oq s σ H _ I h) λv s1 zq=>?_);erw[zq,x,H1,O,Z,q1];erw[q1,c,rfl,q1];cases Z;refine vv ?_;cases c with
 |true=>exact U oq s1 σ H1 Q O q1
 |false=>exact⟨.bl UT,H1,O,1,q1⟩
def S4 (ha:PE X a ta)(U:PE X (.BoolOp .Or (b::rest) pos) tb):PE X (.BoolOp .Or (a::b::rest) pos) (Aa5 ta tb):=by
 exists 2,Q,I,h;refine BoolOp_or (thn (ha oq s σ H _ I h) λv s1 zq=>?_);erw[zq,x,H1,O,Z,q1];erw[q1,c,rfl,q1];cases Z;refine vv ?_;cases c with
 |false=>exact U oq s1 σ H1 Q O q1
 |true=>exact⟨.bl v_,H1,O,1,q1⟩
nonrec def tIf (t:TT)(ta tb:TE):TE:=λσ H Q=>t σ H λc H1=>if c=v_ then ta σ H1 Q else tb σ H1 Q
def Q4 {c:Expr}(U:PT X c tA)(ha:PE X a ta)(Z:PE X b tb):PE X (.IfExp c a b pos) (tIf tA ta tb):=by
 exists 2,Q,I,h;refine wpAny_IfExp (thn (U oq s σ H _ I h) λd s1 zq=>?_);erw[zq,H1,O,q1];cases d with
 |true=>exact ha oq s1 σ H1 Q O q1
 |false=>exact Z oq s1 σ H1 Q O q1
end
nonrec def SqL (K:o0)(H:Hp)(a:o3)(xs:oj V):Prop:=
 Rd H a (.lst xs)∨
  ∃(o:Obj) (its:Array o6) (n:Nat),K.lookup a=u_ o/\o.cls= .type "list"/\o.dict=US/\o.data= .seq its n/\its.size<=UX/\im xs its.toList
nonrec def SqT (K:o0)(H:Hp)(a:o3)(xs:oj V):Prop:=
 Rd H a (.tup xs)∨
  ∃(o:Obj) (its:Array o6) (n:Nat),K.lookup a=u_ o/\o.cls= .type "tuple"/\o.data= .seq its n/\its.size<=UX/\im xs its.toList
nonrec def Abx:o6->om V
 | .none=>u_ .non
 | .bool b=>u_ (.bl b)
 | .int i _=>u_ (.int i)
 | .str x _=>u_ (.str x)
 | .bytes b _=>u_ (.byt b)
 | .float b _=>u_ (.flt b)
 | .ref a=>u_ (.ref a)
 | .type n=>u_ (.ty n)
 |_=>US
variable {u:o6}
def ik.abs {x:V}(r:ik x u):Abx u=u_ x:=by
 cases x with
 |non=>cases r;rfl
 |bl _=>cases r;rfl
 |int _=>erw[r,t,rfl];rfl
 |str _=>erw[r,t,rfl];rfl
 |byt _=>erw[r,t,rfl];rfl
 |flt _=>erw[r,t,rfl];rfl
 |ref _=>cases r;rfl
 |ty _=>cases r;rfl
variable {y:V}
def ik.inj {x:V}(r:ik x u)(q:ik y u):x=y:=uL (r.abs.symm.trans q.abs)
def im.inj:∀{xs ys:oj V}{us:oj o6},im xs us->im ys us->xs=ys
 |_,_,_,.nil,.nil=>rfl
 |_,_,_,.cons r t,.cons r' t'=>by rw[r.inj r',im.inj t t']
section
variable {X:Cx}{oq:oj (o3×Obj)}{σ:St}{H:Hp}{s:o7}{a:o3}{xs ys:oj V}
variable {K:o0}
def SqL.of (h:H a=u_ (.lst xs)):SqL K H a xs:= .inl (.inl h)
def SqT.of (h:H a=u_ (.tup xs)):SqT K H a xs:= .inl (.inl h)
def Inv.list (I:#[I])(h:SqL X.K H a xs):∃its:oj o6,im xs its/\PlainL s.heap a its.toArray/\↑xs<=sizeLine:=by
 rcases h with h|⟨o,its,n,O,U,hd,Z,hz,r⟩
 ·erw[h.ok I.hok,z,its,n,r,e];exact⟨its,r,⟨_,n,e,1,1,1⟩,z⟩
 ·exists its.toList,r,⟨o,n,I.kIn a o O,U,hd,by simpa using Z⟩
  have e:=↑r;simp![vk] at e;omega
def Inv.tuple (I:#[I])(h:SqT X.K H a xs):∃its:oj o6,im xs its/\gT s.heap a its.toArray/\↑xs<=sizeLine:=by
 rcases h with h|⟨o,its,n,O,U,Z,hz,r⟩
 ·erw[h.ok I.hok,z,its,r,p];exact⟨its,r,p,z⟩
 ·exists its.toList,r,⟨o,I.kIn a o O,U,n,by simpa using Z⟩
  have e:=↑r;simp![vk] at e;omega
def Inv.list_inj (I:#[I])(h:SqL X.K H a xs)(h':SqL X.K H a ys):xs=ys:=by
 erw[I.list h,its,r,[o,n,e,_,_,d],_];erw[I.list h',its',U,[o',n',O,_,_,d'],_];rw[e] at O;cases O;rw[d] at d';injection d' with Z _
 have:its=its':=by simpa using A9 Td Z
 subst this;exact r.inj U
def Inv.tuple_inj (I:#[I])(h:SqT X.K H a xs)(h':SqT X.K H a ys):xs=ys:=by
 erw[I.tuple h,its,r,[o,e,_,n,d],_];erw[I.tuple h',its',U,[o',O,_,n',d'],_];rw[e] at O;cases O;rw[d] at d';injection d' with Z _
 have:its=its':=by simpa using A9 Td Z
 subst this;exact r.inj U
end
noncomputable abbrev Cx.wish (X:Cx)(E:o6->o7->Prop):Cx:={X with xe:=E}
noncomputable abbrev Cx.nox (X:Cx):Cx:=X.wish λ_ _=>False
def Cx.Ok.wish (ok:X.Ok)(E:o6->o7->Prop):(X.wish E).Ok:=
 ⟨ok.mod,ok.kind,ok.glob,ok.blt,ok.above,ok.inj,ok.has,ok.cab,ok.hd,ok.frames,ok.stk,ok.exf,ok.bs,ok.bsz,ok.noex,ok.exfs,ok.funs,ok.frf⟩
def Cx.Ok.unwish {E:o6->o7->Prop}(ok:(X.wish E).Ok):X.Ok:=
 ⟨ok.mod,ok.kind,ok.glob,ok.blt,ok.above,ok.inj,ok.has,ok.cab,ok.hd,ok.frames,ok.stk,ok.exf,ok.bs,ok.bsz,ok.noex,ok.exfs,ok.funs,ok.frf⟩
section
variable {X:Cx}{oq:oj (o3×Obj)}{σ:St}{H:Hp}{s:o7}{E:o6->o7->Prop}
def Inv.wish (I:#[I])(E:o6->o7->Prop):Inv (X.wish E) oq σ H s:=⟨I.ok.wish E,I.os,I.bare,I.base,I.loc,I.cell,I.free,I.freeC,I.pin,I.hok,I.len,I.tk⟩
def Inv.unwish (I:Inv (X.wish E) oq σ H s):#[I]:=⟨I.ok.unwish,I.os,I.bare,I.base,I.loc,I.cell,I.free,I.freeC,I.pin,I.hok,I.len,I.tk⟩
def SP.unwish {D:mP}{f:Flow}{s':o7}(h:SP (X.wish E) oq D f s'):SP X oq D f s':=by
 cases f with
 |next=>erw[h,O,H',I,q];exact⟨O,H',I.unwish,q⟩
 |brk=>erw[h,O,H',I,q];exact⟨O,H',I.unwish,q⟩
 |cont=>erw[h,O,H',I,q];exact⟨O,H',I.unwish,q⟩
 |ret u=>erw[h,v,O,H',I,r,q];exact⟨v,O,H',I.unwish,r,q⟩
def PSs.nox {st:oj Stmt}{t:TS}(h:PSs X.nox st t):PSs X st t:=λoq s σ H D I hw=>
 vI (h oq s σ H D (I.wish _) hw) (λ_ _ q=>q.unwish) λ_ _ z=>Vh z
end
section
variable {X:Cx}{st:Stmt}{rest:oj Stmt}{t u:TS}{e:Expr}{te:TE}{pos:Pos}
nonrec def Oi:TS:=λD σ H=>D.nx σ H
nonrec def mQ (t u:TS):TS:=λD σ H=>t {D with nx:=u D} σ H
def qw:PSs X [] Oi:=λ_ _ σ H _ I h=>Hh ⟨σ,H,I,h⟩
def qc (h1:PS X st t)(h2:PSs X rest u):PSs X (st::rest) (mQ t u):=by
 exists 2,D,I,h;refine Fd (thn (h1 oq s σ H {D with nx:=u D} I h) λf s1 q=>?_)
 cases f with
 |next=>
  erw[q,O,H',U,q];exact h2 oq s1 O H' D U q
 |ret v=>exact q
 |brk=>exact q
 |cont=>exact q
def qe (h1:PS X st t):PSs X [st] t:=by
 exists 2,D,I,h;refine Fd (thn (h1 oq s σ H D I h) λf s1 q=>?_);cases f with
 |next=>exact Hh q
 |ret v=>exact q
 |brk=>exact q
 |cont=>exact q
nonrec def Os:TS:=λD σ H=>D.bk σ H
nonrec def SL:TS:=λD σ H=>D.ct σ H
def Ma:PS X (.Pass pos) Oi:=λ_ _ σ H _ I h=>wpAny_Pass ⟨σ,H,I,h⟩
def ER:PS X (.Break pos) Os:=λ_ _ σ H _ I h=>wpAny_Break ⟨σ,H,I,h⟩
def pG:PS X (.Continue pos) SL:=λ_ _ σ H _ I h=>wpAny_Continue ⟨σ,H,I,h⟩
variable {oq:oj (o3×Obj)}{σ:St}
def Inv.quiet (I:#[I]):FC X.env=false:=by simp[FC,I.ok.kind]
nonrec def SI (te:TE):TS:=λD σ H=>te σ H λ_ H1=>D.nx σ H1
def qZ (O:PE X e te)(U:Gk e US pos.line X.env=pure UT):PS X (.Expr e pos) (SI te):=by
 exists 2,D,I,h;exact wpAny_Expr_any (thn (O oq s σ H _ I h) λv s1 ⟨x,H1,Z,r1,q1⟩=>⟨σ,H1,Z,q1⟩) I.quiet U
nonrec def Aa4 (te:TE):TS:=λD σ H=>te σ H D.rt
def qp (O:PE X e te):PS X (.Return (u_ e) pos) (Aa4 te):=by
 exists 2,D,I,h;exact wpAny_Return_some (thn (O oq s σ H _ I h) λv s1 ⟨x,H1,U,Z,q1⟩=>⟨x,σ,H1,U,Z,q1⟩)
nonrec def SE:TS:=λD _ H=>D.rt .non H
def L9:PS X (.Return US pos) SE:=λ_ _ σ H _ I h=>wpAny_Return_none ⟨.non,σ,H,I,1,h⟩
nonrec def AaI (c:TT)(t u:TS):TS:=λD σ H=>c σ H λb H1=>if b=v_ then t D σ H1 else u D σ H1
def qG {c:Expr}{a b:oj Stmt}{tc:TT}(U:PT X c tc)(ha:PSs X a t)(Z:PSs X b u):PS X (.If c a b pos) (AaI tc t u):=by
 exists 2,D,I,h;refine wpAny_If (thn (U oq s σ H _ I h) λd s1 zq=>?_);erw[zq,H1,O,q1];cases d with
 |true=>exact ha oq s1 σ H1 D O q1
 |false=>exact Z oq s1 σ H1 D O q1
nonrec def Oj:TS:=λ_ _ _=>False
def ju:PS X st Oj:=λ_ _ _ _ _ _ h=>h.elim
end
noncomputable abbrev TG:=V->St->Hp->(St->Hp->Prop)->Prop
noncomputable abbrev TGs:=oj V->St->Hp->(St->Hp->Prop)->Prop
nonrec def PG (X:Cx)(target:Expr)(t:TG):Prop:=
 ∀(oq:oj (o3×Obj)) (s:o7) (σ:St) (H:Hp) (v:V) (u:o6) (Q:St->Hp->Prop),#[I]->ik v u->t v σ H Q->
  UU #[X,X] X.A (VG target X.env u) (λ_ s'=>∃σ' H',Inv X oq σ' H' s'/\Q σ' H') X.xe s
nonrec def PGs (X:Cx)(ts:oj Expr)(t:TGs):Prop:=
 ∀(oq:oj (o3×Obj)) (s:o7) (σ:St) (H:Hp) (vs:oj V) (us:oj o6) (Q:St->Hp->Prop),#[I]->im vs us->t vs σ H Q->
  UU #[X,X] X.A (assignInOrder ((Vs ts X.env).map (·.2)) us) (λ_ s'=>∃σ' H',Inv X oq σ' H' s'/\Q σ' H') X.xe s
noncomputable abbrev Aav:=V->V->V->Hp->(Hp->Prop)->Prop
nonrec def AaZ (X:Cx)(t:Aav):Prop:=
 ∀(oq:oj (o3×Obj)) (s:o7) (σ:St) (H:Hp) (o i v:V) (ov iv u:o6) (Q:Hp->Prop),#[I]->ik o ov->ik i iv->ik v u->t o i v H Q->
  UU #[X,X] X.A (Ta ov iv u) (λ_ s'=>∃H',Inv X oq σ H' s'/\Q H') X.xe s
noncomputable abbrev TIp:=V->V->Hp->VK->Prop
nonrec def PIp (X:Cx)(op:Gr)(t:TIp):Prop:=
 ∀(oq:oj (o3×Obj)) (s:o7) (σ:St) (H:Hp) (x y:V) (v u:o6) (Q:VK),#[I]->ik x v->ik y u->t x y H Q->
  UU #[X,X] X.A (HI op v u) (EP X oq σ Q) X.xe s
section
variable {X:Cx}{pos:Pos}
nonrec def ji (i:Nat):TG:=λv σ H Q=>Q (σ.set i (u_ v)) H
def qQ {i:Nat}{x:Str}(O:X.N.Nodup)(hi:X.N[i]? =u_ x)(U:Loc X.env.scope x)(Z:X.fn x=v_∨X.env.scope.names.lookup x=u_ .local):PG X (.Name x pos) (ji i):=by
 exists 2,v,u,Q,I,r,h;exact Fo (kQ I O hi U r (λs' I'=>⟨_,H,I',h⟩) Z)
nonrec def AaU:TGs:=λvs σ H Q=>vs= []/\Q σ H
nonrec def Np (t:TG)(u:TGs):TGs:=λvs σ H Q=>∃v r,vs=v::r/\t v σ H λσ' H'=>u r σ' H' Q
def Jb:PGs X [] AaU:=by
 exists 2,vs,us,Q,I,r,h;erw[h,e,h];subst e;cases r;exact assignInOrder_nil ⟨σ,H,I,h⟩
def QC {e:Expr}{es:oj Expr}{t:TG}{u:TGs}(h1:PG X e t)(h2:PGs X es u)
  (O:(Vs (e::es) X.env).map (·.2)=VG e X.env::(Vs es X.env).map (·.2):=by rfl):PGs X (e::es) (Np t u):=by
 exists 2,vs,us,Q,I,r,h;erw[h,v,vr,U,h];subst U;cases r with
 |cons r Z=>
  rw[O];refine assignInOrder_cons (thn (h1 oq s σ H _ _ _ I r h) λ_ s1 zq=>?_);erw[zq,σ1,H1,I1,q1];exact h2 oq s1 σ1 H1 _ _ Q I1 Z q1
nonrec def Aal (K:o0)(n:Nat)(t:TGs):TG:=λv σ H Q=>∃a xs,v= .ref a/\SqT K H a xs/\↑xs=n/\t xs σ H Q
def wA {es:oj Expr}{k:Nat}{t:TGs}{n:Nat}(Z:X.calm=v_)(h:PGs X es t)
  (hn:↑(Vs es X.env)=n:=by rfl) (O:(Vs es X.env).findIdx? (·.1)=none:=by rfl):PG X (.Tuple es k pos) (Aal X.K n t):=by
 exists 2,v,u,Q,I,r,U;erw[U,a,xs,e1,hq,hl,U];subst e1;cases r;erw[I.tuple hq,its,rv,ht,hz];refine assign_Tuple_tuple (I.ok.hd Z) ht (by simp[hn,<-hl,rv.length]) O λh' hx=>?_
 have I1:Inv X oq σ H {s with heap:=h'}:=I.kept (t':=s.toks) λb o e=>hx b o (uR (uI e)) e
 exact h oq _ σ H xs _ Q I1 (by simpa using rv) U
nonrec def Abv (to ti:TE)(t:Aav):TG:=λv σ H Q=>to σ H λo H1=>ti σ H1 λi H2=>t o i v H2 λH3=>Q σ H3
def OP {o i:Expr}{to ti:TE}{t:Aav}(U:PE X o to)(hi:PE X i ti)(Z:AaZ X t)
  (ha:∀v,VG (.Subscript o i pos) X.env v=(do
   let ov<-VQ [v] (eval o X.env)
   let O<-VQ [v,ov] (eval i X.env)
   Go pos
   VQ [v,ov,O] (Ta ov O v)
   release [v,ov,O] [])):PG X (.Subscript o i pos) (Abv to ti t):=by
 exists 2,v,u,Q,I,r,h;rw[ha];refine A7 (Vq (thn (U oq s σ H _ I h) λov s1 zq=>?_));erw[zq,x,H1,I1,r1,q1];refine A7 (Vq (thn (hi oq s1 σ H1 _ I1 q1) λO s2 zq=>?_));erw[zq,y,H2,I2,r2,q2];refine A7 (GE (A7 (Vq (thn (Z oq s2 σ H2 x y v ov O u _ I2 r1 r2 r q2) λ_ s3 zq=>?_))));erw[zq,H3,I3,q3];exact wpAny_release ⟨σ,H3,I3,q3⟩
nonrec def SN (te:TE)(g:TG):TS:=λD σ H=>te σ H λx H1=>g x σ H1 D.nx
def ZH {tg e:Expr}{te:TE}{g:TG}(O:PE X e te)(U:PG X tg g)(Z:swapsWithSole [tg] e pos.line X.env=pure UT)(hw:swappedStores [tg] e X.env=pure US)
  (h1:(Vs [tg] X.env).map (·.2)= [VG tg X.env]):PS X (.Assign [tg] e pos) (SN te g):=by
 exists 2,D,I,h;refine wpAny_Assign_stores (thn (O oq s σ H _ I h) λv s1 zq=>?_) Z hw;erw[zq,x,H1,I1,r1,q1];rw[h1];exact thn (U oq s1 σ H1 x v _ I1 r1 q1) λ_ s2 q=>q
def qC {i:Nat}{x:Str}{e:Expr}{te:TE}{pos':Pos}(O:X.N.Nodup)(hi:X.N[i]? =u_ x)(U:Loc X.env.scope x)(Z:PE X e te)(hs:Gk e (u_ (.Name x pos')) pos.line X.env=pure UT)(hf:X.fn x=v_∨X.env.scope.names.lookup x=u_ .local):
  PS X (.Assign [.Name x pos'] e pos) (SN te (ji i)):=by
 exists 2,D,I,h;refine wpAny_Assign_Name (thn (Z oq s σ H _ I h) λv s1 zq=>?_) hs;erw[zq,y,H1,I1,r1,q1];exact kQ I1 O hi U r1 (λs2 I2=>⟨_,H1,I2,q1⟩) hf
inductive Aba (i:Nat)(te:TE)(ti:TIp)(D:mP)(σ:St)(H:Hp):Prop
 |mk (x:_)(_:σ[i]? =u_ (u_ x))(_:te σ H λy H1=>ti x y H1 λz H2=>D.nx (σ.set i (u_ z)) H2)
def Kk {i:Nat}{x:Str}{e:Expr}{te:TE}{Z:Gr}{ti:TIp}{pos':Pos}(hN:X.N.Nodup)(hi:X.N[i]? =u_ x)(hx:Loc X.env.scope x)(he:PE X e te)(ho:PIp X Z ti)(hf:X.fn x=v_∨X.env.scope.names.lookup x=u_ .local):
  PS X (.AugAssign (.Name x pos') Z e pos) (Aba i te ti):=by
 exists 2,D,I,h;erw[h,v,e1,h];erw[I.loc,m,hn,hl];have aa:Vis X.env.scope x:=by rcases hx with k|k;exact .inl k;exact .inr (.inl k)
 erw[hl i x v hi e1 aa,u,r,l];refine wpAny_AugAssign_Name ?_;have go:UU #[X,X] X.A (eval e X.env) (λw s₂=>UU #[X,X] X.A (HI Z u w) (λr s₃=>UU #[X,X] X.A (hX X.env x r) (λ_=>SP X oq D .next) X.xe s₃) X.xe s₂) X.xe s:=by
  refine thn (he oq s σ H _ I h) λw s1 zq=>?_;erw[zq,y,H1,I1,r1,q1];refine thn (ho oq s1 σ H1 v y u w _ I1 r r1 q1) λz s2 zq=>?_;erw[zq,zv,H2,I2,r2,q2];exact kQ I2 hN hi hx r2 (λs3 I3=>⟨_,H2,I3,q2⟩) hf
 rcases l with⟨O,hm⟩|⟨O,c,hc,U⟩
 ·exact Fc I.ok.kind O hn hm go
 ·rcases O with O|O
  ·exact f_ I.ok.kind O hc U go
  ·rcases hx with k|k
   ·have:X.env.scope.names.lookup x=u_ .free:=O;rw[k] at this;cases this
   ·have:X.env.scope.names.lookup x=u_ .free:=O;rw[k] at this;cases this
nonrec def ipI (f:Int->Int->Int):TIp:=λx y H Q=>∃i j,x= .int i/\y= .int j/\Q (.int (f i j)) H
def KJ:PIp X .Add (ipI λi j=>i+j):=by
 exists 2,x,y,v,u,Q,I,O,U,h;erw[h,i,j,Z,e2,q];subst Z;subst e2;erw[O,t,rfl];erw[U,t',rfl];exact iadd_int ⟨.int _,H,I.tok _,⟨0⟩,q⟩
nonrec def IX (c:TT)(tb:TS):TS:=λD σ H=>∃W:Nat->St->Hp->Prop,(∃m,W m σ H)/\∀m σ H,W m σ H->
 c σ H λb H1=>if b=v_ then∃N:St->Hp->Prop,(∀σ' H',N σ' H'->∃m',m'<m/\W m' σ' H')/\tb {D with nx:=N,ct:=N,bk:=D.nx} σ H1 else D.nx σ H1
def xZ {c:Expr}{O:oj Stmt}{tc:TT}{tb:TS}(hp:PassesOwn #[X,X] X.A X.env X.xe)(hc:PT X c tc)(hb:PSs X O tb):PS X (.While c O [] pos) (IX tc tb):=by
 exists 2,D,I,h;erw[h,W,[m0,w0],U];refine wpAny_While (codeAny_whileLoop (λn s'=>∃σ' H',Inv X oq σ' H' s'/\W n σ' H') ?_ m0 ⟨σ,H,I,w0⟩);rintro n s1 ⟨σ1,H1,I1,w1⟩;refine U1 hp (thn (hc oq s1 σ1 H1 _ I1 (U n σ1 H1 w1)) λb s2 zq=>?_);erw[zq,H2,I2,q2];cases b with
 |true=>
  erw[q2,N,hN,q2];rw[A6 rfl];refine U1 hp (thn (hb oq s2 σ1 H2 _ I2 q2) λf s3 q3=>?_);cases f with
  |next=>
   erw[q3,Z,H3,I3,n3];erw[hN Z H3 n3,m',hm,w3];exact⟨m',hm,Z,H3,I3,w3⟩
  |cont=>
   erw[q3,Z,H3,I3,n3];erw[hN Z H3 n3,m',hm,w3];exact⟨m',hm,Z,H3,I3,w3⟩
  |brk=>exact q3
  |ret v=>exact q3
 |false=>
  rw[A4 uc];exact Hh ⟨σ1,H2,I2,q2⟩
end
structure It where
 go:Nat->Hp->Prop
 yld:Nat->Hp->V->Hp->Prop
 stop:Nat->Hp->Prop
nonrec def sK (X:Cx)(oq:oj (o3×Obj))(H:Hp)(b:o3):Prop:=
 H b=US/\b≠X.env.locals/\b∉X.fs/\(b∈X.ex∨X.s₀.heap.objs.size<=b)/\(∀x c,X.env.cells.lookup x=u_ c->c≠b)/\∀p∈X.pn++oq,p.1≠b
variable {oq:oj (o3×Obj)}{σ:St}{H':Hp}
def Inv.fpOk (I:#[I])(O:#[0,s]<=b)(hn:H' b=US):sK X oq H' b:=by
 exists hn,Ug (V5 I.lt O),I.nofs O,.inr (uQ I.sz O),λx c e z=>?_,λp U z=>?_
 ·erw[I.cell x c e,v,q];exact A8 (V5 q.lt (by rwa[z])) (vF _)
 ·exact A8 (V5 (uI (I.pin p U).1) (by rwa[z])) (vF _)
structure NI (P:o9)(w:og)(K:o0)(tg:Expr)(J:It)(fp:oj o3)(it:o3)(tn:Nat->o8->Prop):Prop where
 mem:it∈fp
 obj:∀i h,tn i h->∀b∈fp,∃o,h.get? b=u_ o/\∀v,o.data≠ .cell v
 keep:∀i h h',tn i h->(∀b∈fp,∀o,h.get? b=u_ o->h'.get? b=u_ o)->tn i h'
 item:∀(X:Cx),X.prog=P->X.w=w->X.K=K->X.calm=v_->∀(i:Nat) (oq:oj (o3×Obj)) (s:o7) (σ:St) (H:Hp) (E:o6->o7->Prop),#[I]->(∀b∈fp,sK X oq H b)->tn i s.heap->J.go i H->
  UU (V8 P w) X.A (VC (.ref it)) (λr s1=>∃u,r=u_ u/\
   UU (V8 P w) X.A (GN tg (.ref it) u) (λ_ s2=>∃x H',Inv X oq σ H' s2/\ik x u/\J.yld i H x H'/\tn (i+1) s2.heap/\∀b∈fp,H' b=US) E s1) E s
 done:∀(X:Cx),X.prog=P->X.w=w->X.K=K->X.calm=v_->∀(i:Nat) (oq:oj (o3×Obj)) (s:o7) (σ:St) (H:Hp) (E:o6->o7->Prop),#[I]->(∀b∈fp,sK X oq H b)->tn i s.heap->J.stop i H->
  UU (V8 P w) X.A (VC (.ref it)) (λr s1=>r=US/\Inv X oq σ H s1) E s
 self:∀(A:oh) (i:Nat) (s:o7) (Q:o6->o7->Prop) (E:o6->o7->Prop),tn i s.heap->Q (.ref it) s->UU (V8 P w) A (hV (.ref it)) Q E s
noncomputable abbrev TI:=St->Hp->(It->Hp->Prop)->Prop
nonrec def PIE (X:Cx)(oq:oj (o3×Obj))(σ:St)(tg:Expr)(R:It->Hp->Prop)(itv:o6)(s2:o7):Prop:=
 ∃(it:o3) (fp:oj o3) (tn:Nat->o8->Prop) (J:It) (H':Hp),itv= .ref it/\Inv X oq σ H' s2/\NI X.prog X.w X.K tg J fp it tn/\tn 0 s2.heap/\(∀b∈fp,sK X oq H' b)/\R J H'
nonrec def PI (X:Cx)(tg iter:Expr)(wi:TI):Prop:=
 ∀(oq:oj (o3×Obj)) (s:o7) (σ:St) (H:Hp) (R:It->Hp->Prop),#[I]->wi σ H R->
  UU #[X,X] X.A (eval iter X.env) (λv s1=>UU #[X,X] X.A (hV v) (PIE X oq σ tg R) X.xe s1) X.xe s
def DA {M:G9}{A:oh}{E:o6->o7->Prop}{s:o7}{tg:Expr}{it:o3}{u:o6}{o:Obj}{n:String}{vs:Array o6}{Q:Unit->o7->Prop}(U:s.heap.get? it=u_ o)(Z:o.cls= .type n)(hd:o.data= .fields vs)
  (hn: ["enumerate","zip","dict_itemiterator","dict_reverseitemiterator","odict_iterator","itertools.zip_longest","itertools.pairwise"].contains n=UT) (O:Q gV s):UU M A (GN tg (.ref it) u) Q E s:=by
 unfold GN;cases tg<;>first
  |exact uF O
  |(cases u<;>first
    |exact uF O
    |(refine A7 (He U ?_)
      rw[Z,hd];show UU M A (if(["enumerate","zip","dict_itemiterator","dict_reverseitemiterator","odict_iterator","itertools.zip_longest","itertools.pairwise"].contains n&&vs[0]? ==u_ (VF _))=v_ then _ else _) Q E s
      rw[A4 (by intro h;rw[hn,Ra] at h;cases h)]
      exact uF O))
nonrec def Itl (K:o0)(a:o3):It:=
 ⟨λi H=>∃xs x,SqL K H a xs/\xs[i]? =u_ x,λi H x H'=>H'=H/\∀xs,SqL K H a xs->xs[i]? =u_ x,λi H=>∃xs,SqL K H a xs/\↑xs<=i⟩
nonrec def Itt (K:o0)(a:o3):It:=
 ⟨λi H=>∃xs x,SqT K H a xs/\xs[i]? =u_ x,λi H x H'=>H'=H/\∀xs,SqT K H a xs->xs[i]? =u_ x,λi H=>∃xs,SqT K H a xs/\↑xs<=i⟩
nonrec def Itr (lo:Int)(n:Nat):It:=[λi _=>i<n:λi H x H'=>H'=H/\x= .int (lo+i):λi _=>n<=i]
variable {K:o0}{tg:Expr}
def BF {P:o9}(a it:o3):NI P w K tg (Itl K a) [it] it (λi h=>h.IsListIter it a i) where
 mem:=by simp
 obj:=λi h st b O=>by
  have e:b=it:=by simpa using O
  subst e;erw[st,o,e,c,d];exact⟨o,e,λv z=>by rw[d] at z;cases z⟩
 keep:=λi h h' st k=>st.at λo e=>k it (by simp) o e
 item:=by
  intro X hP hw hK hc i oq s σ H E I Z st hg;subst hP hw hK;erw[hg,xs,x,hq,hx];erw[I.list hq,its,rv,p,hz];erw[rv.get hx,u,hu,ru];obtain⟨f0,f1,f2,f3,f4,f5⟩:=Z it (by simp)
  refine rD st p.isList (x:=u) (by simpa using hu) λh' U sb=>?_
  have I1:Inv X oq σ H {s with heap:=h'}:=I.turned (t':=s.toks) (λb o O e=>(sb.2 b O).trans e) f0 f1 f3 f4 f5
  erw[id U,o,e,c,d];exact⟨u,1,DA (s:={s with heap:=h'}) e c d () ⟨x,H,I1,ru,⟨1,λys hy=>by rwa[I.list_inj hy hq]⟩,U,λb O=>(Z b O).1⟩⟩
 done:=by
  intro X hP hw hK hc i oq s σ H E I Z st hg;subst hP hw hK;erw[hg,xs,hq,hx];erw[I.list hq,its,rv,p,hz];obtain⟨f0,f1,f2,f3,f4,f5⟩:=Z it (by simp)
  have hl:=↑rv;exact rY (I.ok.hd hc) st p.isList (by simp;omega) λh' eb=>[1:I.turned (t':=s.toks) (λb o O e=>eb b o O e) f0 f1 f3 f4 f5]
 self:=λ_ _ _ _ _ st h=>wpAny_pyIter_listiter st h
def WC {P:o9}(a it:o3):NI P w K tg (Itt K a) [it] it (λi h=>h.IsTupleIter it a i) where
 mem:=by simp
 obj:=λi h st b O=>by
  have e:b=it:=by simpa using O
  subst e;erw[st,o,e,c,d];exact⟨o,e,λv z=>by rw[d] at z;cases z⟩
 keep:=λi h h' st k=>st.at λo e=>k it (by simp) o e
 item:=by
  intro X hP hw hK hc i oq s σ H E I Z st hg;subst hP hw hK;erw[hg,xs,x,hq,hx];erw[I.tuple hq,its,rv,p,hz];erw[rv.get hx,u,hu,ru];obtain⟨f0,f1,f2,f3,f4,f5⟩:=Z it (by simp)
  refine wpAny_pyNext_tuple_item st (show s.heap.IsTuple a its.toArray from p) (x:=u) (by simpa using hu) λh' U sb=>?_
  have I1:Inv X oq σ H {s with heap:=h'}:=I.turned (t':=s.toks) (λb o O e=>(sb.2 b O).trans e) f0 f1 f3 f4 f5
  erw[id U,o,e,c,d];exact⟨u,1,DA (s:={s with heap:=h'}) e c d () ⟨x,H,I1,ru,⟨1,λys hy=>by rwa[I.tuple_inj hy hq]⟩,U,λb O=>(Z b O).1⟩⟩
 done:=by
  intro X hP hw hK hc i oq s σ H E I Z st hg;subst hP hw hK;erw[hg,xs,hq,hx];erw[I.tuple hq,its,rv,p,hz];obtain⟨f0,f1,f2,f3,f4,f5⟩:=Z it (by simp)
  have hl:=↑rv;exact wpAny_pyNext_tuple_end (I.ok.hd hc) st (show s.heap.IsTuple a its.toArray from p) (by simp;omega) λh' eb=>[1:I.turned (t':=s.toks) (λb o O e=>eb b o O e) f0 f1 f3 f4 f5]
 self:=λ_ _ _ _ _ st h=>wpAny_pyIter_tupleiter st h
def AT {P:o9}(it:o3)(lo:Int)(n:Nat):NI P w K tg (Itr lo n) [it] it (λi h=>Tf h it (lo+(i:Nat)*1) ((n:Int)-(i:Nat)) 1) where
 mem:=by simp
 obj:=λi h st b O=>by
  have e:b=it:=by simpa using O
  subst e;exact⟨_,st,λv z=>by
   have z':Data.fields _=Data.cell v:=z;cases z'⟩
 keep:=λi h h' st k=>k it (by simp) _ st
 item:=by
  intro X hP hw hK hc i oq s σ H E I Z st hg;subst hP hw hK;obtain⟨f0,f1,f2,f3,f4,f5⟩:=Z it (by simp)
  have W:=Walks.range (prog:=X.prog) (w:=X.w) (I.ok.hd hc) it lo 1 n;refine v9 (n:=1) I.tk (W.item i s _ _ hg st λv h' tk hv U kk=>?_);intro htk;erw[hv,t,rfl];have I1:Inv X oq σ H {s with heap:=h',toks:=tk}:=I.turned (λb o O e=>kk b o (by simpa using O) e) f0 f1 f3 f4 f5
  exists 0,DA (s:={s with heap:=h',toks:=tk}) (n:="range_iterator") U rfl rfl () ⟨.int (lo+i),H,I1,[t:?_],[1:1],U,λb O=>(Z b O).1⟩
  rw[Int.mul_one]
 done:=by
  intro X hP hw hK hc i oq s σ H E I Z st hg;subst hP hw hK;obtain⟨f0,f1,f2,f3,f4,f5⟩:=Z it (by simp)
  exact wpAny_pyNext_range_end (I.ok.hd hc) st (by have:n<=i:=hg;omega) λh' eb=>[1:I.turned (t':=s.toks) (λb o O e=>eb b o O e) f0 f1 f3 f4 f5]
 self:=λ_ _ _ _ _ st h=>wpAny_pyIter_rangeiter st h
section
variable {X:Cx}{tg:Expr}
inductive Sd (K:PySem.W.Frag)(R:(It->Hp->Prop))(x:V)(H1:Hp):Prop
 |mk (a:_)(_:x= .ref a)(_:(∃xs,SqL K H1 a xs))(_:R (Itl K a) H1)
nonrec def Aah (K:o0)(tl:TE):TI:=λσ H R=>tl σ H λx H1=>Sd K R x H1
inductive AaC (K:PySem.W.Frag)(R:(It->Hp->Prop))(x:V)(H1:Hp):Prop
 |mk (a:_)(_:x= .ref a)(_:(∃xs,SqT K H1 a xs))(_:R (Itt K a) H1)
nonrec def Abt (K:o0)(tl:TE):TI:=λσ H R=>tl σ H λx H1=>AaC K R x H1
def pI {l:Expr}{tl:TE}(U:PE X l tl):PI X tg l (Aah X.K tl):=by
 exists 2,R,I,h;refine thn (U oq s σ H _ I h) λv s1 zq=>?_;erw[zq,x,H1,O,Z,q1];erw[q1,a,e,[xs,hq],q];subst e;cases Z;erw[O.list hq,its,rv,p,hz];refine UH p.isList ?_;exists #[0,s1],[#[0,s1]],_,_,H1,1,O.kept (t':=s1.toks) λb o e=>ug _ e,BF a _,⟨_,uJ _ rfl,1,1⟩,λb hb=>?_,q;have e:b=#[0,s1]:=by simpa using hb
 subst e;exact O.fpOk (uj _) (O.hok.fresh (uj _))
def Ah {l:Expr}{tl:TE}(U:PE X l tl):PI X tg l (Abt X.K tl):=by
 exists 2,R,I,h;refine thn (U oq s σ H _ I h) λv s1 zq=>?_;erw[zq,x,H1,O,Z,q1];erw[q1,a,e,[xs,hq],q];subst e;cases Z;erw[O.tuple hq,its,rv,p,hz];refine Hy (show s1.heap.IsTuple a its.toArray from p) ?_
 exists #[0,s1],[#[0,s1]],_,_,H1,1,O.kept (t':=s1.toks) λb o e=>ug _ e,WC a _,⟨_,uJ _ rfl,1,1⟩,λb hb=>?_,q;have e:b=#[0,s1]:=by simpa using hb
 subst e;exact O.fpOk (uj _) (O.hok.fresh (uj _))
def sZ {oq:oj (o3×Obj)}{σ:St}{H:Hp}{s:o7}{R:It->Hp->Prop}{E:o6->o7->Prop}{lo hi:Int}{t u v:Tok}{tk:Nat}(I:#[I])(h1: -(2^62)<=lo)(h2:lo<2^62)(h3: -(2^62)<=hi)(h4:hi<2^62)
  (q:R (Itr lo (hi-lo).toNat) H) (htk:0<tk:=by ac_rfl):UU #[X,X] X.A (hV (.ref #[0,s])) (PIE X oq σ tg R) E {s with heap:=s.heap.push {cls:= .type "range",data:= .fields #[.int lo t,.int hi u,.int 1 v]},toks:=tk}:=by
 refine wpAny_pyIter_range (IsRange.new ..) (small_one h1 h2 h3 h4) ?_;have O:Inv X oq σ H {s with heap:=s.heap.push {cls:= .type "range",data:= .fields #[.int lo t,.int hi u,.int 1 v]},toks:=tk}:=I.kept λb o e=>ug _ e
 refine⟨(s.heap.push {cls:= .type "range",data:= .fields #[.int lo t,.int hi u,.int 1 v]}).objs.size,[(s.heap.push {cls:= .type "range",data:= .fields #[.int lo t,.int hi u,.int 1 v]}).objs.size],_,_,H,1,
  O.kept (t':=tk) λb o e=>ug _ e,AT _ lo (hi-lo).toNat,?_,λb U=>?_,q⟩
 ·have Z:lo+((0:Nat):Int)*1=lo:=by simp
  have e2:(((hi-lo).toNat:Nat):Int)-((0:Nat):Int)=Rr lo hi 1:=by rw[rangeSize_one];split<;>omega
  show Tf _ _ (lo+((0:Nat):Int)*1) ((((hi-lo).toNat:Nat):Int)-((0:Nat):Int)) 1;rw[Z,e2];exact uJ _ rfl
 ·have e:b=(s.heap.push {cls:= .type "range",data:= .fields #[.int lo t,.int hi u,.int 1 v]}).objs.size:=by simpa using U
  subst e;exact O.fpOk (uj _) (O.hok.fresh (uj _))
inductive Sc (R:(It->Hp->Prop))(vs:List V)(H1:Hp):Prop
 |mk (j:Int)(_:vs= [.int j])(_: -(2^62)<=j)(_:j<2^62)(_:R (Itr 0 j.toNat) H1)
nonrec def Aag (ta:TA):TI:=λσ H R=>ta σ H λvs H1=>Sc R vs H1
inductive Sb (R:(It->Hp->Prop))(vs:List V)(H1:Hp):Prop
 |mk (i j:Int)(_:vs= [.int i,.int j])(_:(-(2^62)<=i/\i<2^62/\ -(2^62)<=j/\j<2^62))(_:R (Itr i (j-i).toNat) H1)
nonrec def Aaf (ta:TA):TI:=λσ H R=>ta σ H λvs H1=>Sb R vs H1
def Yy {a:Expr}{ta:TA}{p pos:Pos}(O:Gl X "range")(hm:X.mg "range"=US)(ha:PA X [a] ta)(U:UY [a] X.env= [(UT,eval a X.env)]):PI X tg (.Call (.Name "range" p) [a] [] pos) (Aag ta):=by
 exists 2,R,I,h;refine Call_ (WF I O hm boot_range (vP (thn (ha pos oq s σ H _ I h) λus s1 zq=>?_) U rfl));erw[zq,vs,H1,Z,r1,q1];erw[q1,j,e,q1,q2,q];subst e;cases r1 with
 |cons r rr=>
  cases rr;erw[r,t,rfl];exact call_range_1 (sZ Z () () q1 q2 (by simpa using q))
def nO {a b:Expr}{ta:TA}{p pos:Pos}(Z:Gl X "range")(hm:X.mg "range"=US)(ha:PA X [a,b] ta)(hs:UY [a,b] X.env= [(UT,eval a X.env),(UT,eval b X.env)])(O:UY [b] X.env= [(UT,eval b X.env)]):
  PI X tg (.Call (.Name "range" p) [a,b] [] pos) (Aaf ta):=by
 exists 2,R,I,h;refine Call_ (WF I Z hm boot_range (vP (thn (ha pos oq s σ H _ I h) λus s1 zq=>?_) (by rw[hs,O]) (by rw[O];rfl)));erw[zq,vs,H1,I1,r1,q1]
 erw[q1,i,j,e,[q1,q2,q3,q4],q];subst e;cases r1 with
 |cons r U=>
  cases U with
  |cons r' U=>
   cases U;erw[r,t,rfl];erw[r',t',rfl];exact call_range_2 (sZ I1 q1 q2 q3 q4 q)
nonrec def AaJ (wi:TI)(g:TG)(tb:TS):TS:=λD σ H=>wi σ H λJ H1=>∃W:Nat->Nat->St->Hp->Prop,(∃m,W 0 m σ H1)/\∀i m σ H,W i m σ H->
 (J.stop i H/\D.nx σ H)∨(J.go i H/\∃N:St->Hp->Prop,(∀σ' H',N σ' H'->∃m',m'<m/\W (i+1) m' σ' H')/\∀x H',J.yld i H x H'->g x σ H' λσ2 H2=>tb {D with nx:=N,ct:=N,bk:=D.nx} σ2 H2)
nonrec def nN (fp:oj o3)(h:o8):oj (o3×Obj):=fp.filterMap λb=>(h.get? b).map λo=>(b,o)
variable {fp:oj o3}
def JP (O:b∈fp)(e:h.get? b=u_ o):(b,o)∈nN fp h:=List.mem_filterMap.mpr ⟨b,O,by rw[e];rfl⟩
def CZ {p:o3×Obj}(O:p∈nN fp h):p.1∈fp/\h.get? p.1=u_ p.2:=by
 erw[List.mem_filterMap.mp O,b,U,e];cases q:h.get? b with
 |none=>rw[q] at e;cases e
 |some o=>
  rw[q] at e;have Z:(b,o)=p:=uL e;subst Z;exact[U:q]
def Inv.pinned (I:#[I])(Z:∀b∈fp,sK X oq H b)(ho:∀b∈fp,∃o,s.heap.get? b=u_ o/\∀v,o.data≠ .cell v):Inv X (oq++nN fp s.heap) σ H s:=
 I.pins_of λp hp=>(Ac.mp hp).elim (λz=>I.pin p (uM _ z)) λz=>by
  erw[CZ z,O,e];erw[Z p.1 O,f0,f1,f2,_];erw[ho p.1 O,o,U,d];rw[e] at U;cases U;exact⟨e,f0,f1,f2,d⟩
def Inv.unpinned {pl:oj (o3×Obj)}(I:Inv X (oq++pl) σ H s):#[I]:=I.pins_of λp O=>I.pin p (uM _ (vh _ O))
def xf {O:Expr}{ac:oj Stmt}{wi:TI}{g:TG}{tb:TS}{pos:Pos}(hp:PassesOwn #[X,X] X.A X.env X.xe)(hc:X.calm=v_)(hi:PI X tg O wi)(hg:PG X tg g)(U:PSs X ac tb)
  (hs:∀x,tK O X.env x=pure x):PS X (.For tg O ac [] pos) (AaJ wi g tb):=by
 exists 2,D,I,h;refine wpAny_For (thn (hi oq s σ H _ I h) λv s1 h1=>thn h1 λam s2 h2=>?_) hs;erw[h2,it,fp,tn,J,H2,e,I2,T,ah,f2,W,[m0,w0],ae];subst e;have Z:∀{H':Hp},(∀b∈fp,H' b=US)->∀b∈fp,sK X oq H' b:=λhn b U=>[hn b U:(f2 b U).2];refine codeAny_forLoop_any (λn s'=>∃i σ' H',Inv X oq σ' H' s'/\tn i s'.heap/\(∀b∈fp,H' b=US)/\W i n σ' H') ?_ m0 ⟨(0),σ,H2,I2,ah,λb U=>(f2 b U).1,w0⟩;rintro n s3 ⟨i,σ3,H3,I3,af,ag,w3⟩;rcases ae i n σ3 H3 w3 with⟨stop,qn⟩|⟨go,N,hN,step⟩
 ·refine U1 hp (thn (T.done X rfl rfl rfl hc i oq s3 σ3 H3 X.xe I3 (Z ag) af stop) λr s4 zq=>?_);erw[zq,hr,I4];subst hr;exact Hh ⟨σ3,H3,I4,qn⟩
 ·refine U1 hp (thn (T.item X rfl rfl rfl hc i oq s3 σ3 H3 X.xe I3 (Z ag) af go) λr s4 zq=>?_);erw[zq,u,hr,h4];subst hr;refine U1 hp (thn h4 λ_ s5 zq=>?_);erw[zq,x,H5,I5,r5,y5,ad,ak];have al:=I5.pinned (Z ak) (T.obj _ _ ad);refine U1 hp (thn (hg _ s5 σ3 H5 x u _ al r5 (step x H5 y5)) λ_ s6 zq=>?_);erw[zq,σ6,H6,I6,q6];refine U1 hp (thn (U _ s6 σ6 H6 _ I6 q6) λf s7 q7=>?_);have aa:∀{σ7:St}{H7:Hp},Inv X (oq++nN fp s5.heap) σ7 H7 s7->N σ7 H7->∃m,m<n/\∃i σ' H',Inv X oq σ' H' s7/\tn i s7.heap/\(∀b∈fp,H' b=US)/\W i m σ' H':=λ{σ7 H7} I7 n7=>by
   erw[hN σ7 H7 n7,m',hm,w7];exists m',hm,i+1,σ7,H7,I7.unpinned,T.keep _ _ _ ad λb U o e=>(I7.pin (b,o) (uM _ (uM _ (JP U e)))).1,λb U=>?_,w7;erw[T.obj _ _ ad b U,o,e,d];exact(I7.pin (b,o) (uM _ (uM _ (JP U e)))).2.1
  cases f with
  |next=>erw[q7,σ7,H7,I7,n7];exact aa I7 n7
  |cont=>erw[q7,σ7,H7,I7,n7];exact aa I7 n7
  |brk=>erw[q7,σ7,H7,I7,q7];exact⟨σ7,H7,I7.unpinned,q7⟩
  |ret v=>erw[q7,x7,σ7,H7,I7,r7,q7];exact⟨x7,σ7,H7,I7.unpinned,r7,q7⟩
end
def AC {K:o0}{a:o3}{xs:oj V}{g:TG}{tb:TS}{D:mP}{σ:St}{H:Hp}(O:Nat->St->Hp->Prop)(h0:O 0 σ H)(hl:∀i σ H,i<=↑xs->O i σ H->SqL K H a xs)
  (hs:∀i x σ H,xs[i]? =u_ x->O i σ H->g x σ H λZ H2=>tb {D with nx:=O (i+1),ct:=O (i+1),bk:=D.nx} Z H2) (hd:∀σ H,O ↑xs σ H->D.nx σ H):
  ∃W:Nat->Nat->St->Hp->Prop,(∃m,W 0 m σ H)/\∀i m σ H,W i m σ H->
   ((Itl K a).stop i H/\D.nx σ H)∨((Itl K a).go i H/\∃N:St->Hp->Prop,(∀σ' H',N σ' H'->∃m',m'<m/\W (i+1) m' σ' H')/\∀x H',(Itl K a).yld i H x H'->g x σ H' λZ H2=>tb {D with nx:=N,ct:=N,bk:=D.nx} Z H2):=by
 exists λi m σ H=>m=↑xs-i/\i<=↑xs/\O i σ H,⟨↑xs,by simp,uW _,h0⟩
 rintro i m σ H ⟨rfl,hi,p⟩;have q:=hl i σ H hi p;by_cases U:i<↑xs
 ·refine .inr ⟨⟨xs,xs[i],q,by simp[U]⟩,O (i+1),λσ' H' p'=>⟨↑xs-(i+1),(),1,U,p'⟩,λx H' y=>?_⟩
  erw[y,e,y];subst e;exact hs i x σ _ (y xs q) p
 ·have e:i=↑xs:=by omega
  subst e;exact .inl [[xs:q:uj _]:hd σ H p]
def ko {K:o0}{a:o3}{xs:oj V}{g:TG}{tb:TS}{D:mP}{σ:St}{H:Hp}(O:Nat->St->Hp->Prop)(h0:O 0 σ H)(hl:∀i σ H,i<=↑xs->O i σ H->SqT K H a xs)
  (hs:∀i x σ H,xs[i]? =u_ x->O i σ H->g x σ H λZ H2=>tb {D with nx:=O (i+1),ct:=O (i+1),bk:=D.nx} Z H2) (hd:∀σ H,O ↑xs σ H->D.nx σ H):
  ∃W:Nat->Nat->St->Hp->Prop,(∃m,W 0 m σ H)/\∀i m σ H,W i m σ H->
   ((Itt K a).stop i H/\D.nx σ H)∨((Itt K a).go i H/\∃N:St->Hp->Prop,(∀σ' H',N σ' H'->∃m',m'<m/\W (i+1) m' σ' H')/\∀x H',(Itt K a).yld i H x H'->g x σ H' λZ H2=>tb {D with nx:=N,ct:=N,bk:=D.nx} Z H2):=by
 exists λi m σ H=>m=↑xs-i/\i<=↑xs/\O i σ H,⟨↑xs,by simp,uW _,h0⟩
 rintro i m σ H ⟨rfl,hi,p⟩;have q:=hl i σ H hi p;by_cases U:i<↑xs
 ·refine .inr ⟨⟨xs,xs[i],q,by simp[U]⟩,O (i+1),λσ' H' p'=>⟨↑xs-(i+1),(),1,U,p'⟩,λx H' y=>?_⟩
  erw[y,e,y];subst e;exact hs i x σ _ (y xs q) p
 ·have e:i=↑xs:=by omega
  subst e;exact .inl [[xs:q:uj _]:hd σ H p]
def Zx {lo:Int}{n:Nat}{g:TG}{tb:TS}{D:mP}{σ:St}{H:Hp}(O:Nat->St->Hp->Prop)(h0:O 0 σ H)
  (hs:∀i σ H,i<n->O i σ H->g (.int (lo+i)) σ H λZ H2=>tb {D with nx:=O (i+1),ct:=O (i+1),bk:=D.nx} Z H2) (hd:∀σ H,O n σ H->D.nx σ H):
  ∃W:Nat->Nat->St->Hp->Prop,(∃m,W 0 m σ H)/\∀i m σ H,W i m σ H->
   ((Itr lo n).stop i H/\D.nx σ H)∨((Itr lo n).go i H/\∃N:St->Hp->Prop,(∀σ' H',N σ' H'->∃m',m'<m/\W (i+1) m' σ' H')/\∀x H',(Itr lo n).yld i H x H'->g x σ H' λZ H2=>tb {D with nx:=N,ct:=N,bk:=D.nx} Z H2):=by
 exists λi m σ H=>m=n-i/\i<=n/\O i σ H,⟨n,by simp,uW _,h0⟩
 rintro i m σ H ⟨rfl,hi,p⟩;by_cases U:i<n
 ·refine .inr ⟨U,O (i+1),λσ' H' p'=>⟨n-(i+1),(),1,U,p'⟩,λx H' y=>?_⟩
  erw[y,e,y];subst e y;exact hs i σ _ U p
 ·have e:i=n:=by omega
  subst e;exact .inl [uj _:hd σ H p]
noncomputable abbrev R2:=V->V->Hp->VK->Prop
nonrec def OpR (X:Cx)(f:o6->o6->Sem o6)(r:R2):Prop:=
 ∀(oq:oj (o3×Obj)) (s:o7) (σ:St) (H:Hp) (x y:V) (v u:o6) (Q:VK),#[I]->ik x v->ik y u->r x y H Q->
  UU #[X,X] X.A (f v u) (EP X oq σ Q) X.xe s
nonrec def UnR (X:Cx)(f:o6->Sem o6)(r:V->Hp->VK->Prop):Prop:=
 ∀(oq:oj (o3×Obj)) (s:o7) (σ:St) (H:Hp) (x:V) (v:o6) (Q:VK),#[I]->ik x v->r x H Q->
  UU #[X,X] X.A (f v) (EP X oq σ Q) X.xe s
nonrec def YN (X:Cx)(f:o6)(r:oj V->Hp->VK->Prop):Prop:=
 ∀(oq:oj (o3×Obj)) (s:o7) (σ:St) (H:Hp) (xs:oj V) (us:oj o6) (Q:VK),#[I]->im xs us->r xs H Q->
  UU #[X,X] X.A (call f us) (EP X oq σ Q) X.xe s
nonrec def Aby (X:Cx)(r:V->Hp->(Bool->Hp->Prop)->Prop):Prop:=
 ∀(oq:oj (o3×Obj)) (s:o7) (σ:St) (H:Hp) (x:V) (v:o6) (Q:Bool->Hp->Prop),#[I]->ik x v->r x H Q->
  UU #[X,X] X.A (truthy v) (TP X oq σ Q) X.xe s
nonrec def tOp (r:R2)(ta tb:TE):TE:=λσ H Q=>ta σ H λx H1=>tb σ H1 λy H2=>r x y H2 Q
nonrec def tUn (r:V->Hp->VK->Prop)(ta:TE):TE:=λσ H Q=>ta σ H λx H1=>r x H1 Q
inductive rI (C:Int->Int->Prop)(g:Int->Int->V)(x:V)(y:V)(H:Hp)(Q:VK):Prop
 |mk (i:_)(j:_)(_:x= .int i)(_:y= .int j)(_:C i j)(_:Q (g i j) H)
inductive rI0 (g:Int->Int->V)(x:V)(y:V)(H:Hp)(Q:VK):Prop
 |mk (i:_)(j:_)(_:x= .int i)(_:y= .int j)(_:Q (g i j) H)
inductive rU (g:Int->V)(x:V)(H:Hp)(Q:VK):Prop
 |mk (i:_)(_:x= .int i)(_:Q (g i) H)
section
variable {X:Cx}{a b c:Expr}{ta tb tc:TE}{pos:Pos}
def Aas (ha:PE X a ta)(O:PE X b tb){oq:oj (o3×Obj)}{s:o7}{σ:St}{H:Hp}{R:V->V->Hp->Prop}(I:#[I])
  (h:ta σ H λx H1=>tb σ H1 λy H2=>R x y H2) {Q:o6->o7->Prop}{f:o6->o6->Sem o6}
  (U:∀v u s2 x y H2,Inv X oq σ H2 s2->ik x v->ik y u->R x y H2->UU #[X,X] X.A (f v u) Q X.xe s2):
  UU #[X,X] X.A (eval a X.env) (λv Z=>UU #[X,X] X.A (eval b X.env) (λu s₂=>UU #[X,X] X.A (f v u) Q X.xe s₂) X.xe Z) X.xe s:=by
 refine thn (ha oq s σ H _ I h) λv s1 zq=>?_;erw[zq,x,H1,I1,r1,q1];refine thn (O oq s1 σ H1 _ I1 q1) λu s2 zq=>?_;erw[zq,y,H2,I2,r2,q2];exact U v u s2 x y H2 I2 r1 r2 q2
def qY {O:Gr}{r:R2}(U:OpR X (Vl O) r)(ha:PE X a ta)(Z:PE X b tb):PE X (.BinOp a O b pos) (tOp r ta tb):=by
 exists 2,Q,I,h;exact wpAny_BinOp (Aas ha Z I h λv u s2 x y H2 I2 rx ry q=>U oq s2 σ H2 x y v u Q I2 rx ry q)
def OR {O:UnaryOp}{r:V->Hp->VK->Prop}(U:UnR X (unaryOp O) r)(ha:PE X a ta):PE X (.UnaryOp O a pos) (tUn r ta):=by
 exists 2,Q,I,h;exact UnaryOp_ (thn (ha oq s σ H _ I h) λv s1 ⟨x,H1,Z,r1,q1⟩=>U oq s1 σ H1 x v Q Z r1 q1)
def opI {f:o6->o6->Sem o6}{C:Int->Int->Prop}{g:Int->Int->Int}
  (rule:∀(i j:Int) (t u:Tok) (s:o7) (Q:o6->o7->Prop) (E:o6->o7->Prop),C i j->Q (.int (g i j) s.toks) {s with toks:=s.toks+1}->UU #[X,X] X.A (f (.int i t) (.int j u)) Q E s):
  OpR X f (rI C λi j=> .int (g i j)):=by
 exists 2,x,y,v,u,Q,I,O,U,h;erw[h,i,j,rfl,rfl,Z,q];erw[O,t,rfl];erw[U,t',rfl];exact rule i j t t' s _ _ Z ⟨.int (g i j),H,I.tok _,⟨0⟩,q⟩
def AaR {f:o6->o6->Sem o6}{g:Int->Int->Int}
  (rule:∀(i j:Int) (t u:Tok) (s:o7) (Q:o6->o7->Prop) (E:o6->o7->Prop),Q (.int (g i j) s.toks) {s with toks:=s.toks+1}->UU #[X,X] X.A (f (.int i t) (.int j u)) Q E s):
  OpR X f (rI0 λi j=> .int (g i j)):=by
 exists 2,x,y,v,u,Q,I,O,U,h;erw[h,i,j,rfl,rfl,q];erw[O,t,rfl];erw[U,t',rfl];exact rule i j t t' s _ _ ⟨.int (g i j),H,I.tok _,⟨0⟩,q⟩
def Si {f:o6->o6->Sem o6}{g:Int->Int->Bool}
  (rule:∀(i j:Int) (t u:Tok) (s:o7) (Q:o6->o7->Prop) (E:o6->o7->Prop),Q (.bool (g i j)) s->UU #[X,X] X.A (f (.int i t) (.int j u)) Q E s):
  OpR X f (rI0 λi j=> .bl (g i j)):=by
 exists 2,x,y,v,u,Q,I,O,U,h;erw[h,i,j,rfl,rfl,q];erw[O,t,rfl];erw[U,t',rfl];exact rule i j t t' s _ _ ⟨.bl (g i j),H,I,1,q⟩
nonrec def AbC (i j:Int):Prop:=0<j/\j<1073741824
nonrec def AbB (i j:Int):Prop:=0<=j/\j<=1000000/\i.natAbs<2^64
nonrec def So (i j:Int):Prop:=(-(2^64)<i/\i<2^64)∨(-(2^64)<j/\j<2^64)
variable {i:Int}
def So.ok {j:Int}(h:So i j):IntMulOk i j:=by
 rcases h with⟨h1,h2⟩|⟨h1,h2⟩
 ·exact .of_left (re h1 h2)
 ·exact .of_right (re h1 h2)
def yJ:OpR X (Vl .Add) (rI0 λi j=> .int (i+j)):=AaR λ_ _ _ _ _ _ _ q=>add_int q
def Ko:OpR X (Vl .Sub) (rI0 λi j=> .int (i-j)):=AaR λ_ _ _ _ _ _ _ q=>sub_int q
def nS:OpR X (Vl .Mult) (rI So λi j=> .int (i*j)):=opI λ_ _ _ _ _ _ _ O q=>mul_int q O.ok
def pL:OpR X (Vl .FloorDiv) (rI AbC λi j=> .int (i/j)):=opI λi j _ _ _ _ _ O q=>by
 have h1:(0:Int)<j:=O.1;have h2:j<1073741824:=O.2;exact floordiv_int () (by rwa[Int.fdiv_eq_ediv_of_nonneg i ()]) (.inl (PyProof.noPylong_small ()))
def Xc:OpR X (Vl .Mod) (rI (λ_ j=>0<j) λi j=> .int (i%j)):=opI λi j _ _ _ _ _ O q=>by
 have h1:(0:Int)<j:=O;exact mod_int' () (by rwa[Int.fmod_eq_emod_of_nonneg i ()])
def OW:OpR X (Vl .Pow) (rI AbB λi j=> .int (i^j.toNat)):=opI λ_ _ _ _ _ _ _ O q=>pow_int_small O.1 O.2.1 O.2.2 q
def unI {f:o6->Sem o6}{g:Int->Int}
  (rule:∀(i:Int) (t:Tok) (s:o7) (Q:o6->o7->Prop) (E:o6->o7->Prop),Q (.int (g i) s.toks) {s with toks:=s.toks+1}->UU #[X,X] X.A (f (.int i t)) Q E s):
  UnR X f (rU λi=> .int (g i)):=by
 exists 2,x,v,Q,I,O,h;erw[h,i,rfl,q];erw[O,t,rfl];exact rule i t s _ _ ⟨.int (g i),H,I.tok _,⟨0⟩,q⟩
def IV:UnR X (unaryOp .USub) (rU λi=> .int (-i)):=unI λ_ _ _ _ _ q=>neg_int q
nonrec def AaM:V->V->Bool
 | .non,.non=>v_| .non,.int _=>v_| .int _,.non=>v_| .non,.bl _=>v_| .bl _,.non=>v_| .non,.str _=>v_| .str _,.non=>v_
 | .int _,.int _=>v_| .bl _,.bl _=>v_| .str _,.str _=>v_| .byt _,.byt _=>v_
 | .int _,.str _=>v_| .str _,.int _=>v_| .bl _,.str _=>v_| .str _,.bl _=>v_
 |_,_=>UT
nonrec def rEq:R2:=λx y H Q=>AaM x y=v_/\Q (.bl (decide (x=y))) H
nonrec def rNe:R2:=λx y H Q=>AaM x y=v_/\Q (.bl (!decide (x=y))) H
def DY {j:Int}:decide (V.int i=V.int j)=(i==j):=by
 rw[vH];simp
def KU {i j:Bool}:decide (V.bl i=V.bl j)=(i==j):=by
 rw[vH];simp
def DX {i j:Str}:decide (V.str i=V.str j)=(i==j):=by
 rw[vH];simp
def DZ {i j:Array UInt8}:decide (V.byt i=V.byt j)=(i.toList==j.toList):=by
 rw[vH];cases i;cases j;simp
variable {Q:VK}
def Qh {k O:Bool}(I:#[I])(q:Q (.bl k) H)(e:k=O):EP X oq σ Q (.bool O) s:=by
 subst e;exact⟨.bl k,H,I,1,q⟩
def Qq:OpR X (V4 .Eq) rEq:=by
 exists 2,x,y,v,u,Q,I,Z,O,h;erw[h,U,q];cases x with
 |non=>
  cases Z;cases y with
  |non=>cases O;exact PySem.EqNone.eq_none_none (Qh I q (by simp))
  |bl j=>cases O;exact PySem.EqNone.eq_none_bool (Qh I q (by simp))
  |int j=>erw[O,t',rfl];exact PySem.EqNone.eq_none_int (Qh I q (by simp))
  |str j=>erw[O,t',rfl];exact PySem.EqNone.eq_none_str (Qh I q (by simp))
  |_=>exact A8 (show UT=v_ from U) uc
 |bl i=>
  cases Z;cases y with
  |non=>cases O;exact PySem.EqNone.eq_bool_none (Qh I q (by simp))
  |bl j=>cases O;exact eq_bool (Qh I q KU)
  |str j=>erw[O,t',rfl];exact PySem.EqMixed.eq_bool_str (Qh I q (by simp))
  |_=>exact A8 (show UT=v_ from U) uc
 |int i=>
  erw[Z,t,rfl];cases y with
  |non=>cases O;exact PySem.EqNone.eq_int_none (Qh I q (by simp))
  |int j=>erw[O,t',rfl];exact eq_int (Qh I q DY)
  |str j=>erw[O,t',rfl];exact PySem.EqMixed.eq_int_str (Qh I q (by simp))
  |_=>exact A8 (show UT=v_ from U) uc
 |str i=>
  erw[Z,t,rfl];cases y with
  |non=>cases O;exact PySem.EqNone.eq_str_none (Qh I q (by simp))
  |bl j=>cases O;exact PySem.EqMixed.eq_str_bool (Qh I q (by simp))
  |int j=>erw[O,t',rfl];exact PySem.EqMixed.eq_str_int (Qh I q (by simp))
  |str j=>erw[O,t',rfl];exact eq_str (Qh I q DX)
  |_=>exact A8 (show UT=v_ from U) uc
 |byt i=>
  erw[Z,t,rfl];cases y with
  |byt j=>erw[O,t',rfl];exact PySem.W.eq_bytes (Qh I q DZ)
  |_=>exact A8 (show UT=v_ from U) uc
 |_=>cases y<;>exact A8 (show UT=v_ from U) uc
def EX:OpR X (V4 .NotEq) rNe:=by
 exists 2,x,y,v,u,Q,I,Z,O,h;erw[h,U,q];cases x with
 |non=>
  cases Z;cases y with
  |non=>cases O;exact PySem.EqNone.ne_none_none (Qh I q (by simp))
  |bl j=>cases O;exact PySem.EqNone.ne_none_bool (Qh I q (by simp))
  |int j=>erw[O,t',rfl];exact PySem.EqNone.ne_none_int (Qh I q (by simp))
  |str j=>erw[O,t',rfl];exact PySem.EqNone.ne_none_str (Qh I q (by simp))
  |_=>exact A8 (show UT=v_ from U) uc
 |bl i=>
  cases Z;cases y with
  |non=>cases O;exact PySem.EqNone.ne_bool_none (Qh I q (by simp))
  |bl j=>cases O;exact ne_bool (Qh I q (A9 not KU))
  |str j=>erw[O,t',rfl];exact PySem.EqMixed.ne_bool_str (Qh I q (by simp))
  |_=>exact A8 (show UT=v_ from U) uc
 |int i=>
  erw[Z,t,rfl];cases y with
  |non=>cases O;exact PySem.EqNone.ne_int_none (Qh I q (by simp))
  |int j=>erw[O,t',rfl];exact ne_int (Qh I q (A9 not DY))
  |str j=>erw[O,t',rfl];exact PySem.EqMixed.ne_int_str (Qh I q (by simp))
  |_=>exact A8 (show UT=v_ from U) uc
 |str i=>
  erw[Z,t,rfl];cases y with
  |non=>cases O;exact PySem.EqNone.ne_str_none (Qh I q (by simp))
  |bl j=>cases O;exact PySem.EqMixed.ne_str_bool (Qh I q (by simp))
  |int j=>erw[O,t',rfl];exact PySem.EqMixed.ne_str_int (Qh I q (by simp))
  |str j=>erw[O,t',rfl];exact ne_str (Qh I q (A9 not DX))
  |_=>exact A8 (show UT=v_ from U) uc
 |byt i=>
  erw[Z,t,rfl];cases y with
  |byt j=>erw[O,t',rfl];exact PySem.W.ne_bytes (Qh I q (A9 not DZ))
  |_=>exact A8 (show UT=v_ from U) uc
 |_=>cases y<;>exact A8 (show UT=v_ from U) uc
def Cu:OpR X (V4 .Lt) (rI0 λi j=> .bl (decide (i<j))):=Si λ_ _ _ _ _ _ _ q=>lt_int q
def Cv:OpR X (V4 .LtE) (rI0 λi j=> .bl (decide (i<=j))):=Si λ_ _ _ _ _ _ _ q=>le_int q
def pK:OpR X (V4 .Gt) (rI0 λi j=> .bl (decide (j<i))):=Si λ_ _ _ _ _ _ _ q=>gt_int q
def S6:OpR X (V4 .GtE) (rI0 λi j=> .bl (decide (j<=i))):=Si λ_ _ _ _ _ _ _ q=>ge_int q
def Ct:OpR X (V4 .Lt) (λx y H Q=>∃i j,x= .str i/\y= .str j/\Q (.bl (decide (i.cps.toList<j.cps.toList))) H):=by
 exists 2,x,y,v,u,Q,I,O,U,h;erw[h,i,j,rfl,rfl,q];erw[O,t,rfl];erw[U,t',rfl];exact lt_str (Qh I q rfl)
def Cw:OpR X (V4 .In) (λx y H Q=>∃i j,x= .str i/\y= .str j/\Q (.bl (!(Gy j i 0 ↑j 1).isEmpty)) H):=by
 exists 2,x,y,v,u,Q,I,O,U,h;erw[h,i,j,rfl,rfl,q];erw[O,t,rfl];erw[U,t',rfl];exact in_str (Qh I q rfl)
def yL:OpR X (V4 .Is) (λx y H Q=>y= .non/\Q (.bl (decide (x= .non))) H):=by
 exists 2,x,y,v,u,Q,I,O,U,h;erw[h,rfl,q];cases U;refine is_none_gen (Qh I q ?_);cases x<;>first
  |(cases O;rfl)
  |(erw[O,t,rfl];rfl)
def W8:OpR X (V4 .IsNot) (λx y H Q=>y= .non/\Q (.bl (!decide (x= .non))) H):=by
 exists 2,x,y,v,u,Q,I,O,U,h;erw[h,rfl,q];cases U;refine isnot_none_gen (Qh I q ?_);cases x<;>first
  |(cases O;rfl)
  |(erw[O,t,rfl];rfl)
def qA (b:Expr){O:gR}(h:O≠ .In:=by decide)(h2:O≠ .NotIn:=by decide):Gu O b=false:=by
 have U:(O==CmpOp.In)=false:=by cases O<;>first|rfl|exact A8 rfl h
 have Z:(O==CmpOp.NotIn)=false:=by cases O<;>first|rfl|exact A8 rfl h2
 cases b<;>simp[Gu,U,Z]
def yT {O:gR}{r:R2}(U:OpR X (V4 O) r)(ha:PE X a ta)(Z:PE X b tb)(hm:Gu O b=UT):PE X (.Compare a [O] [b] pos) (tOp r ta tb):=by
 exists 2,Q,I,h;exact wpAny_Compare1 (Aas ha Z I h λv u s2 x y H2 I2 rx ry q=>U oq s2 σ H2 x y v u Q I2 rx ry q) hm
inductive RU (Q:(Bool->Hp->Prop))(x:V)(H':Hp):Prop
 |mk (k:_)(_:x= .bl k)(_:Q k H')
nonrec def Lj (t:TE):TT:=λσ H Q=>t σ H λx H'=>RU Q x H'
def qr {O:gR}{r:R2}(U:OpR X (V4 O) r)(ha:PE X a ta)(Z:PE X b tb)(hm:Gu O b=UT):PT X (.Compare a [O] [b] pos) (Lj (tOp r ta tb)):=by
 exists 2,Q,I,h;refine rc (thn (ha oq s σ H _ I h) λv s1 ⟨x,H1,I1,r1,q1⟩=>thn (Z oq s1 σ H1 _ I1 q1) λu s2 ⟨y,H2,I2,r2,q2⟩=>
  thn (U oq s2 σ H2 x y v u _ I2 r1 r2 q2) λc s3 ⟨z,H3,I3,r3,k,e,q3⟩=>?_) hm
 subst e;cases r3;exact vv [H3:I3:q3]
nonrec def Op (r r':R2)(ta tb tc:TE):TE:=λσ H Q=>ta σ H λx H1=>tb σ H1 λy H2=>r x y H2 λz H3=>∃k,z= .bl k/\
 (if k=v_ then tc σ H3 λw' H4=>r' y w' H4 Q else Q (.bl UT) H3)
def wr {U O:gR}{r r':R2}(ho:OpR X (V4 U) r)(Z:OpR X (V4 O) r')(ha:PE X a ta)(hb:PE X b tb)(hc:PE X c tc)
  (hm:lastMarks [U,O] [b,c]=UT):PT X (.Compare a [U,O] [b,c] pos) (Lj (Op r r' ta tb tc)):=by
 exists 2,Q,I,h;refine isTrue_chain (thn (ha oq s σ H _ I h) λv s1 ⟨x,H1,I1,r1,q1⟩=>test_link (thn (hb oq s1 σ H1 _ I1 q1) λu s2 ⟨y,H2,I2,r2,q2⟩=>
  thn (ho oq s2 σ H2 x y v u _ I2 r1 r2 q2) λd s3 ⟨z,H3,I3,r3,k,e,q3⟩=>?_)) hm
 subst e;cases r3;refine vv ?_;cases k with
 |false=>
  erw[q3,k',e',q'];cases e';exact ite_ff [H3:I3:q']
 |true=>
  refine ite_tt (test_last (thn (hc oq s3 σ H3 _ I3 q3) λw' s4 ⟨z',H4,I4,r4,q4⟩=>thn (Z oq s4 σ H4 y z' u w' _ I4 r2 r4 q4) λd' s5 zq=>?_));erw[zq,z2,H5,I5,r5,k2,e2,q5];subst e2;cases r5;exact vv [H5:I5:q5]
nonrec def AaX (K:o0)(x:V)(H:Hp)(k:Bool):Prop:=
 match x with
 | .non=>k=UT
 | .bl b=>k=b
 | .int i=>k=(i !=0)
 | .str y=>↑y<=UX/\k=((↑y:Int) !=0)
 | .byt y=>y.size<=UX/\k=((y.size:Int) !=0)
 | .ref p=>(∃xs,SqL K H p xs/\k= !xs.isEmpty)∨(∃xs,SqT K H p xs/\k= !xs.isEmpty)∨∃kvs,H p=u_ (.dK kvs)/\k= !kvs.isEmpty
 |_=>False
def Bq {κ:Type}{kvs:oj (κ×V)}{vs:oj (κ×o6)}(r:KV kvs vs):(!vs.isEmpty)= !kvs.isEmpty:=by
 cases r<;>rfl
variable {its:oj o6}
def WP (r:im xs its):(!its.toArray.isEmpty)= !xs.isEmpty:=by
 cases r<;>simp
def zZ:(UX:Nat)<2^63:=by rw[uD];decide
def Oe:Aby X (λx H Q=>∃k,AaX X.K x H k/\Q k H):=by
 exists 2,x,v,Q,I,Z,h;erw[h,k,e,q];have hl:=zZ;have hs:UX=16777216:=uD;cases x with
 |non=>
  cases Z;have O:k=false:=e;subst O;exact truthy_none [H:I:q]
 |bl b=>
  cases Z;have O:k=b:=e;subst O;exact vv [H:I:q]
 |int i=>
  erw[Z,t,rfl];have O:k=(i !=0):=e;subst O;exact PySem.P.truthy_int [H:I:q]
 |str y=>
  erw[Z,t,rfl];obtain⟨hy,O⟩:↑y<=UX/\k=((↑y:Int) !=0):=e;subst O;exact PySem.P.truthy_str () [H:I.tok _:q]
 |byt y=>
  erw[Z,t,rfl];obtain⟨hy,O⟩:y.size<=UX/\k=((y.size:Int) !=0):=e;subst O;exact PySem.W.truthy_bytes () [H:I.tok _:q]
 |ref p=>
  cases Z;have O:(∃xs,SqL X.K H p xs/\k= !xs.isEmpty)∨(∃xs,SqT X.K H p xs/\k= !xs.isEmpty)∨∃kvs,H p=u_ (.dK kvs)/\k= !kvs.isEmpty:=e;rcases O with⟨xs,hx,O⟩|⟨xs,hx,O⟩|⟨kvs,hx,O⟩
  ·subst O;erw[I.list hx,its,r,pl,hz];have U:=↑r;exact wpAny_truthy_list pl.isList (by simp![uw];omega) ⟨H,I.tok _,by rwa[WP r]⟩
  ·subst O;erw[I.tuple hx,its,r,pl,hz];have U:=↑r;exact truthy_tuple pl (by simp![uw];omega) ⟨H,I.tok _,by rwa[WP r]⟩
  ·subst O;obtain⟨hz,hS,vs,r,m⟩:↑kvs<=UX/\(p==Ve)=UT/\∃vs,KV kvs vs/\s.heap.DictOf (Qk X.prog X.w) p vs:=I.hok p _ hx;have U:↑kvs=↑vs:=Paired.length r;exact wpAny_truthy_dict hS m () ⟨H,I.tok _,by rwa[Bq r]⟩
 |_=>exact(show False from e).elim
def wh (ha:PE X a ta)(U:∀O,isTrue a X.env O=(do let v<-O;Go a.pos;VQ [v] (truthy v))):
  PT X a (λσ H Q=>ta σ H λx H'=>∃k,AaX X.K x H' k/\Q k H'):=by
 exists 2,Q,I,h;exact rh (thn (ha oq s σ H _ I h) λv s1 ⟨x,H1,Z,r1,q1⟩=>Oe oq s1 σ H1 x v Q Z r1 q1) (U _)
def Qf:OpR X (Vl .Add) (λx y H Q=>∃i j,x= .str i/\y= .str j/\↑i+↑j<=UX/\Q (.str (i++j)) H):=by
 exists 2,x,y,v,u,Q,I,O,U,h;erw[h,i,j,rfl,rfl,Z,q];erw[O,t,rfl];erw[U,t',rfl];exact v9 (n:=1) I.tk (add_str (λt' tk htk=>⟨.str (i++j),H,I.tok _,⟨0⟩,q⟩) Z)
def Xq {x:V}(r:im [x] us):∃u,us= [u]/\ik x u:=by
 cases r with
 |cons O U=>cases U;exact[0:O]
def BE {x:V}(r:im [x,y] us):∃u O,us= [u,O]/\ik x u/\ik y O:=by
 cases r with
 |cons U Z=>
  cases Z with
  |cons r3 r4=>cases r4;exact⟨_,0,U,r3⟩
def AN:YN X (.builtin "abs") (λxs H Q=>∃i,xs= [.int i]/\Q (.int (if i<0 then-i else i)) H):=by
 exists 2,xs,us,Q,I,r,h;erw[h,i,rfl,q];erw[Xq r,u,rfl,t,rfl];exact v9 (n:=1) I.tk (call_abs_int λu tk htk=>⟨.int (if i<0 then-i else i),H,I.tok _,⟨0⟩,q⟩)
def D5 (U:X.calm=v_):YN X (.builtin "max") (λxs H Q=>∃i j,xs= [.int i,.int j]/\Q (.int (if j>i then j else i)) H):=by
 exists 2,xs,us,Q,I,r,h;erw[h,i,j,rfl,q];erw[BE r,u,Z,rfl,[t,rfl],[t',rfl]];refine v9 (n:=1) I.tk (max_two_ints (I.ok.hd U) λh' tk k htk=>⟨_,H,I.kept k,?_,q⟩);by_cases O:j>i
 ·rw[A6 O,A6 O];exact⟨0⟩
 ·rw[A4 O,A4 O];exact⟨0⟩
def D4 (U:X.calm=v_):YN X (.builtin "min") (λxs H Q=>∃i j,xs= [.int i,.int j]/\Q (.int (if j<i then j else i)) H):=by
 exists 2,xs,us,Q,I,r,h;erw[h,i,j,rfl,q];erw[BE r,u,Z,rfl,[t,rfl],[t',rfl]];refine v9 (n:=1) I.tk (min_two_ints (I.ok.hd U) λh' tk k htk=>⟨_,H,I.kept k,?_,q⟩);by_cases O:j<i
 ·rw[A6 O,A6 O];exact⟨0⟩
 ·rw[A4 O,A4 O];exact⟨0⟩
def YO:YN X (.type "str") (λxs H Q=>∃i,xs= [.int i]/\i.natAbs.log2<1920/\Q (.str (V2 i)) H):=by
 exists 2,xs,us,Q,I,r,h;erw[h,i,rfl,O,q];erw[Xq r,u,rfl,t,rfl];exact PySem.P.str_of_int O ⟨.str _,H,I.tok _,⟨0⟩,q⟩
def IN:YN X (.builtin "ord") (λxs H Q=>∃x,xs= [.str x]/\↑x=1/\Q (.int (x.cps.getD 0 0:Nat)) H):=by
 exists 2,xs,us,Q,I,r,h;erw[h,x,rfl,O,q];erw[Xq r,u,rfl,t,rfl];exact ord_of_one O ⟨.int _,H,I.tok _,⟨0⟩,q⟩
nonrec def AbA (K:o0)(x:V)(H:Hp)(n:Nat):Prop:=
 match x with
 | .str y=>↑y<=UX/\n=↑y
 | .byt y=>y.size<=UX/\n=y.size
 | .ref p=>(∃xs,SqL K H p xs/\n=↑xs)∨∃xs,SqT K H p xs/\n=↑xs
 |_=>False
def W3:YN X (.builtin "len") (λxs H Q=>∃x n,xs= [x]/\AbA X.K x H n/\Q (.int n) H):=by
 exists 2,xs,us,Q,I,r,h;erw[h,x,n,rfl,e,q];erw[Xq r,u,rfl,Z];have hl:=zZ;have hs:UX=16777216:=uD;cases x with
 |str y=>
  erw[Z,t,rfl];obtain⟨hy,U⟩:↑y<=UX/\n=↑y:=e;subst U;exact len_str () ⟨.int _,H,I.tok _,⟨0⟩,q⟩
 |byt y=>
  erw[Z,t,rfl];obtain⟨hy,U⟩:y.size<=UX/\n=y.size:=e;subst U;exact PySem.W.len_bytes () ⟨.int _,H,I.tok _,⟨0⟩,q⟩
 |ref p=>
  cases Z;have U:(∃xs,SqL X.K H p xs/\n=↑xs)∨∃xs,SqT X.K H p xs/\n=↑xs:=e;rcases U with⟨xs,hx,U⟩|⟨xs,hx,U⟩
  ·subst U;erw[I.list hx,its,r',pl,hz];have O:=↑r';exact FS pl.isList (by simp![uw];omega) ⟨.int ↑xs,H,I.tok _,⟨_,by simp![uw];rw[O]⟩,q⟩
  ·subst U;erw[I.tuple hx,its,r',pl,hz];have O:=↑r';exact len_tuple pl (by simp![uw];omega) ⟨.int ↑xs,H,I.tok _,⟨_,by simp![uw];rw[O]⟩,q⟩
 |_=>exact(show False from e).elim
end
structure NN (h:o8)(x dx C:o3)(mA:Str->om o6):Prop where
 obj:h.get? x=u_ (PySem.W.instObj C dx)
 ns:h.Ns1 dx mA
 ne:dx≠x
variable {dx:o3}
def Dc {mA:Str->om o6}(n:h.Ns1 dx mA):∃od,h.get? dx=u_ od/\∀name,PySem.W.lookIn name od=u_ (mA name):=by
 erw[n,o,es,ep,U,hd,Z,_,hm];exists o,U,λname=>?_;have e:=hm name;unfold nsFind findBy at e;rw[<-Array.find?_toList] at e;unfold PySem.W.lookIn;rw[hd];dsimp only;split
 ·rename_i y q
  rw[q] at e;exact A9 u_ e
 ·rename_i q
  rw[q] at e;have a:es.toList.any (·.refKey)=false:=by
   rw[tq];intro y hy;erw[Z y (Array.mem_toList_iff.mp hy),z,t,O];simp[rC,O]
  have a':¬es.toList.any (·.refKey)=true:=by rw[a];exact uc
  rw[A4 a'];exact A9 u_ e
variable {C:o3}
def NN.look {x:o3}{mA:Str->om o6}(I:NN h x dx C mA):∃od,PySem.W.InstAt h x (PySem.W.instObj C dx) C (u_ od)/\∀name,PySem.W.lookIn name od=u_ (mA name):=
 let⟨od,ho,hl⟩:=Dc I.ns
 [od:⟨I.obj,1,1,ho⟩:hl]
section
variable {prog:o9}{w:og}{A:oh}{E:o6->o7->Prop}{s:o7}{K:o0}{x dx C f:o3}{mA:Str->om o6}{name:Str}{v:o6}
def Nm {O:Bool}{Q:o6->o7->Prop}(X:K.In s.heap)(I:NN s.heap x dx C mA)(Z:PySem.W.plainGet K C name=v_)(hh:PySem.W.hasDictIn K C=v_)
  (ha:PySem.W.findIn K (.ref C) name=u_ US) (hv:mA name=u_ v) (U:PySem.W.handedIn v=v_) (h:Q v {s with toks:=s.toks+1}):
  UU #[w,w] A (T8 (.ref x) name O) Q E s:=by
 erw[I.look,od,J,hl];exact PySem.W.get_value X J (PySem.W.plainGet_of Z).1 (PySem.W.findObj_own hh ha rfl (by rw[hl,hv])) U h
def IH {pl:Sem Bool}{Q:o6×oj o6->o7->Prop}(X:K.In s.heap)(I:NN s.heap x dx C mA)(O:PySem.W.plainGet K C name=v_)
  (U:PySem.W.findIn K (.ref C) name=u_ (u_ (.ref f))) (Z:PySem.W.isFn K (.ref f)=v_) (hv:mA name=US) (h:Q (.ref f,[.ref x]) s):
  UU #[w,w] A (GW (.ref x) name pl) Q E s:=by
 erw[I.look,od,J,hl];exact PySem.W.method_fn X J (PySem.W.plainGet_of O).1 (PySem.W.plainGet_of O).2 U (beq_iff_eq.mp Z) (by show(PySem.W.lookIn name od).map (·.isSome)=u_ UT;rw[hl,hv];rfl) h
def LW {ns:oj Str}{Q:Unit->o7->Prop}(X:K.In s.heap)(I:NN s.heap x dx C mA)
  (hs:PySem.W.findIn K (.ref C) "__setattr__"=u_ (u_ (.builtin "object.__setattr__"))) (hp:PySem.W.plainOver K C=v_) (ht:PySem.W.takerIn K C name=u_ US) (hh:PySem.W.hasDictIn K C=v_)
  (hw:PySem.Within mA ns) (hsz:↑ns<=UX)
  (h:∀h',NN h' x dx C (λy=>if y=name then u_ v else mA y)->Gn dx s.heap h'->Q gV {s with heap:=h',toks:=s.toks+2}):
  UU #[w,w] A (setAttr (.ref x) name v) Q E s:=by
 erw[I.look,od,J,hl];refine PySem.W.set_plain X J hs (PySem.W.osa_open (s:={s with toks:=s.toks+1}) (r:=US) X J hp ht λb=>?_)
 erw[PySem.W.any_some hh,cd,hc,Z];have hx:s.heap.get? x=u_ ⟨.ref C,u_ dx,.plain,#[]⟩:=I.obj;refine A7 (uF (A7 (A7 (wpAny_loadPart hx (A7 (PySem.W.Looks.here (s:={s with toks:=s.toks+1}) (PySem.W.looks_clsIn X hc) ?_))))))
 rw[Z];refine uF (a:=u_ dx) (A7 (uF (A7 ?_)));refine wpAny_nsSet1 (s:={s with toks:=s.toks+1}) I.ns λh' O U=>?_
 erw[O.count (PySem.Within.cons name v hw),oD,ae,af,aa,ac,ad];refine A7 (wpAny_lookBehind aa (by rw[ac];exact pastItsLine_dict (uQ ad (by rw[um];omega))) ?_)
 exact uF (h _ [(U.2 _ (Uo I.ne)).trans I.obj:O:I.ne] U)
def Iu {R:VX->o7->Prop}{vs:oj o6}{O:oj (Str×o6)}(X:K.In s.heap)(hm:PySem.W.makesIn K C=v_)
  (hi:PySem.W.findIn K (.ref C) "__init__"=u_ (u_ (.ref f))) (U:PySem.W.typeIn K (.ref f)=u_ (.type "function"))
  (h:Vn #[w,w] (A.under (.builtin "type.__call__" [.ref C::vs:O])) (.call (.ref f) [.ref (#[0,s]+1)::vs:O]) (PySem.W.InitBack (#[0,s]+1) R)
   {s with heap:=(s.heap.push PySem.W.emptyDict).push (PySem.W.instObj C #[0,s])}):
  Vn #[w,w] A (.call (.ref C) [vs:O]) R s:=by
 erw[s,Z,g,d,t,os];exact PySem.W.make_core (PySem.W.makes_of X hm) (PySem.W.looks_findIn X hi) (λself=>PySem.W.bind_fn X self U) (.inl rfl) h
end
nonrec def iB (f:Str)(v:V):oj (Str×V)->oj (Str×V)
 | []=> [(f,v)]
 |(g,x)::r=>if g=f then(g,v)::r else(g,x)::iB f v r
def qJ (f g:Str)(v:V):∀fs:oj (Str×V),(iB f v fs).lookup g=if g=f then u_ v else fs.lookup g
 | []=>by
  show Vg g [(f,v)]=_;by_cases h:g=f
  ·have O:(g==f)=true:=beq_iff_eq.mpr h;simp![Vg,O,A6 h]
  ·have O:(g==f)=false:=beq_eq_false_iff_ne.mpr h;simp![Vg,O,A4 h]
 |(k,x)::r=>by
  have Z:=qJ f g v r;rw[show iB f v ((k,x)::r)=(if k=f then(k,v)::r else(k,x)::iB f v r) from rfl]
  by_cases U:k=f
  ·rw[A6 U];by_cases h:g=k
   ·have O:(g==k)=true:=beq_iff_eq.mpr h;simp![Vg,O,A6 (h.trans U)]
   ·have O:(g==k)=false:=beq_eq_false_iff_ne.mpr h;simp![Vg,O,A4 (λe:g=f=>h (e.trans U.symm))]
  ·rw[A4 U];by_cases h:g=k
   ·have O:(g==k)=true:=beq_iff_eq.mpr h;simp![Vg,O,A4 (λe:g=f=>U (h.symm.trans e))]
   ·have O:(g==k)=false:=beq_eq_false_iff_ne.mpr h;simp![Vg,O];exact Z
def wg (f:Str)(v:V):∀fs:oj (Str×V),f∈(iB f v fs).map (·.1)/\∀g,g∈fs.map (·.1)->g∈(iB f v fs).map (·.1)
 | []=>⟨by simp[iB],λg h=>by simp at h⟩
 |(k,x)::r=>by
  erw[wg f v r,U,Z];rw[show iB f v ((k,x)::r)=(if k=f then(k,v)::r else(k,x)::iB f v r) from rfl]
  by_cases O:k=f
  ·rw[A6 O];subst O;exact⟨by simp,λg h=>by simpa using h⟩
  ·rw[A4 O];exists ?_,λg h=>?_
   ·rw[uB];exact uh _ U
   ·rw[uB] at h⊢;rcases Aa.mp h with e|e
    ·exact Aa.mpr (.inl e)
    ·exact uh _ (Z g e)
def wF (f:Str)(v:V):∀fs:oj (Str×V),↑(iB f v fs)<=↑fs+1
 | []=>by simp[iB]
 |(k,x)::r=>by
  have U:=wF f v r;rw[show iB f v ((k,x)::r)=(if k=f then(k,v)::r else(k,x)::iB f v r) from rfl]
  by_cases O:k=f
  ·rw[A6 O,um,um];omega
  ·rw[A4 O,um,um];omega
variable {v:V}
def mX.some_of {o:om o6}(r:mX (u_ v) o):∃u,o=u_ u/\ik v u:=by
 cases o with
 |none=>exact(show False from r).elim
 |some u=>exact[u:1:r]
def mX.none_of {o:om o6}(r:mX US o):o=none:=by
 cases o with
 |none=>rfl
 |some u=>exact(show False from r).elim
def Dy (r:ik v u):PySem.W.handedIn u=true:=by
 cases v with
 |non=>cases(show u=Vy from r);rfl
 |bl b=>cases(show u=GY b from r);rfl
 |int i=>obtain⟨t,e⟩:=(show∃t,u=VP i t from r);cases e;rfl
 |str x=>obtain⟨t,e⟩:=(show∃t,u=Vj x t from r);cases e;rfl
 |byt b=>obtain⟨t,e⟩:=(show∃t,u=FB b t from r);cases e;rfl
 |flt b=>obtain⟨t,e⟩:=(show∃t,u=HS b t from r);cases e;rfl
 |ref a=>cases(show u=UZ a from r);rfl
 |ty n=>cases(show u=VW n from r);rfl
section
variable {P:o9}{w:og}{H H':Hp}{h h':o8}{a C dx:o3}{fs fs':oj (Str×V)}
def Ka (hok:HOk P w H h)(e:H a=u_ (.ins C dx fs)):∃mA,NN h a dx C mA/\(∀f,mX (fs.lookup f) (mA f))/\PySem.Within mA (fs.map (·.1))/\↑fs<=1000/\H dx=u_ (.own a):=by
 obtain⟨d,z,ne,ob,mA,n,r,q⟩:=(show yt P w H h a (.ins C dx fs) from hok a _ e)
 exact⟨mA,[ob:n:ne],r,q,z,d⟩
end
structure Cls (K:o0)(C:o3):Prop where
 pg:PySem.W.plainGet K C HU=v_
 hd:PySem.W.hasDictIn K C=v_
 po:PySem.W.plainOver K C=v_
 sa:PySem.W.findIn K (.ref C) "__setattr__"=u_ (u_ (.builtin "object.__setattr__"))
def Cls.get (c:Cls K C)(f:Str):PySem.W.plainGet K C f=true:=c.pg
nonrec def QE (K:o0)(C:o3)(f:Str):Prop:=PySem.W.findIn K (.ref C) f=u_ US
def QE.taker {f:Str}(n:QE K C f):PySem.W.takerIn K C f=u_ none:=by
 unfold PySem.W.takerIn;rw[show PySem.W.findIn K (.ref C) f=u_ US from n]
 rfl
structure Sm (K:o0)(C:o3)(m:Str)(f:o3):Prop where
 at_:PySem.W.findIn K (.ref C) m=u_ (u_ (.ref f))
 fn:PySem.W.isFn K (.ref f)=v_
 kp:PySem.W.keepIn K (.ref f)=v_
section
variable {X:Cx}{oq:oj (o3×Obj)}{σ:St}{H:Hp}{s:o7}{a C dx:o3}{fs:oj (Str×V)}{f:Str}{v:V}{A:oh}{E:o6->o7->Prop}
def WK {b:Bool}{Q:o6->o7->Prop}(I:#[I])(e:H a=u_ (.ins C dx fs))(c:Cls X.K C)(n:QE X.K C f)(l:fs.lookup f=u_ v)
  (h:∀u s',Inv X oq σ H s'->ik v u->Q u s'):UU #[X,X] A (T8 (.ref a) f b) Q E s:=by
 erw[Ka I.hok e,mA,O,r,_,_,_];obtain⟨u,U,ru⟩:=mX.some_of (v:=v) (o:=mA f) (by rw[<-l];exact r f)
 exact Nm I.kIn O (c.get f) c.hd n U (Dy ru) (h u _ (I.tok _) ru)
def Wq {m:Str}{g:o3}{pl:Sem Bool}{Q:o6×oj o6->o7->Prop}(I:#[I])(e:H a=u_ (.ins C dx fs))(c:Cls X.K C)(k:Sm X.K C m g)(l:fs.lookup m=US)
  (h:Q (.ref g,[.ref a]) s):UU #[X,X] A (GW (.ref a) m pl) Q E s:=by
 erw[Ka I.hok e,mA,O,r,_,_,_];have hn:mA m=none:=mX.none_of (by rw[<-l];exact r m)
 exact IH I.kIn O (c.get m) k.at_ k.fn hn h
def Wa {y:V}{u:o6}{Q:Unit->o7->Prop}(I:#[I])(e:H a=u_ (.ins C dx fs))(c:Cls X.K C)(n:QE X.K C f)(hl:↑fs<1000)(ry:ik y u)
  (h:∀s',Inv X oq σ (upd H a (.ins C dx (iB f y fs))) s'->Q gV s'):UU #[X,X] A (setAttr (.ref a) f u) Q E s:=by
 erw[Ka I.hok e,mA,O,r,wi,_,Z];have hz:(fs.map (·.1)).length<=sizeLine:=by rw[ue,uD];omega
 refine LW I.kIn O c.sa c.po n.taker c.hd wi hz λh' U sb=>h _ ?_;have hd:∃o,h'.get? dx=u_ o:=let⟨o,_,_,e',_⟩:=U.ns;[o:e'];refine I.write (x:=a) (e:=dx) (by rw[e];exact Vi) (.inr Z) (λb q hb z=>(sb.2 b hb).trans z) hd ?_
 refine⟨by rwa[qk O.ne],?_,O.ne,U.obj,_,U.ns,λg=>?_,λg hg=>?_⟩
 ·have:=wF f y fs;omega
 ·show mX ((iB f y fs).lookup g) (if g=f then u_ u else mA g)
  rw[qJ];by_cases q:g=f
  ·rwa[A6 q,A6 q]
  ·rw[A4 q,A4 q];exact r g
 ·by_cases q:g=f
  ·rw[q];exact(wg f y fs).1
  ·refine(wg f y fs).2 g (wi g λz=>hg ?_);show(if g=f then u_ u else mA g)=US
   rw[A4 q];exact z
def Inv.made (I:#[I]):Inv X oq σ (upd (upd H #[0,s] (.own (#[0,s]+1))) (#[0,s]+1) (.ins C #[0,s] []))
  {s with heap:=(s.heap.push PySem.W.emptyDict).push (PySem.W.instObj C #[0,s])}:=by
 have O:(s.heap.push PySem.W.emptyDict).get? #[0,s]=u_ PySem.W.emptyDict:=uJ s.heap rfl;have U:((s.heap.push PySem.W.emptyDict).push (PySem.W.instObj C #[0,s])).get? (#[0,s]+1)=u_ (PySem.W.instObj C #[0,s]):=by
  have:=uJ (s.heap.push PySem.W.emptyDict) (o:=PySem.W.instObj C #[0,s]) rfl
  rwa[vn] at this
 have Z:(s.heap.push PySem.W.emptyDict).Ns #[0,s] (λ_=>US):=⟨PySem.W.emptyDict,#[],_,O,1,(λe he=>A8 he (by simp)),λ_=>rfl⟩
 have I1:=I.laid (a:=#[0,s]) (o:= .own (#[0,s]+1)) (h':=s.heap.push PySem.W.emptyDict) (t':=s.toks) (λb u q=>ug _ q) (uj _) [_:O];refine I1.laid (a:=#[0,s]+1) (o:= .ins C #[0,s] []) (t':=s.toks) (λb u q=>ug _ q) (Fv (vn _ _)) ?_;have ne:#[0,s]≠#[0,s]+1:=uR (HZ _);refine⟨by rw[qk ne,qg],uW _,ne,U,λ_=>US,(Ro Z).at λo q=>ug _ q,λ_=>Vi,λy hy=>A8 rfl hy⟩
def NC {prog:o9}{w:og}{env:Env}{e:Expr}{f:Str}{pos:Pos}{s:o7}{Q:o6->o7->Prop}(O:gS e f env (eval e env)=eval e env)
  (h:UU #[w,w] A (eval e env) (λo U=>UU #[w,w] A (T8 o f v_) Q E U) E s):UU #[w,w] A (eval (.Attribute e f pos) env) Q E s:=
 Attribute_any_ h (by rw[arm_eval_Attribute,O])
end
inductive Aaz (K:PySem.W.Frag)(f:Str)(Q:VK)(x:V)(H1:Hp):Prop
 |mk (a:_)(C:_)(dx:_)(fs:_)(v:_)(_:x= .ref a)(_:H1 a=u_ (.ins C dx fs))(_:Cls K C)(_:QE K C f)(_:fs.lookup f=u_ v)(_:Q v H1)
nonrec def SH (K:o0)(ta:TE)(f:Str):TE:=λσ H Q=>ta σ H λx H1=>Aaz K f Q x H1
inductive AaB (K:PySem.W.Frag)(f:Str)(D:mP)(σ:St)(y:V)(x:V)(H2:Hp):Prop
 |mk (a:_)(C:_)(dx:_)(fs:_)(_:x= .ref a)(_:H2 a=u_ (.ins C dx fs))(_:Cls K C)(_:QE K C f)(_:↑fs<1000)(_:D.nx σ (upd H2 a (.ins C dx (iB f y fs))))
nonrec def Abd (K:o0)(ta tv:TE)(f:Str):TS:=λD σ H=>tv σ H λy H1=>ta σ H1 λx H2=>AaB K f D σ y x H2
nonrec def Aa1 (X:Cx)(op:Gr)(rd:V->V->Hp->VK->Prop):Prop:=
 ∀(oq:oj (o3×Obj)) (s:o7) (σ:St) (H:Hp) (x y:V) (u v:o6) (Q:VK),#[I]->ik x u->ik y v->rd x y H Q->UU #[X,X] X.A (HI op u v) (EP X oq σ Q) X.xe s
inductive IR (K:PySem.W.Frag)(tv:TE)(rd:V->V->Hp->VK->Prop)(f:Str)(D:mP)(σ:St)(x:V)(H1:Hp):Prop
 |mk (a:_)(C:_)(dx:_)(fs:_)(v:_)(_:x= .ref a)(_:H1 a=u_ (.ins C dx fs))(_:Cls K C)(_:QE K C f)(_:fs.lookup f=u_ v)(_:tv σ H1 λy H2=>rd v y H2 λz H3=>∃dx' fs',H3 a=u_ (.ins C dx' fs')/\↑fs'<1000/\D.nx σ (upd H3 a (.ins C dx' (iB f z fs'))))
nonrec def LY (K:o0)(ta tv:TE)(rd:V->V->Hp->VK->Prop)(f:Str):TS:=λD σ H=>ta σ H λx H1=>IR K tv rd f D σ x H1
section
variable {X:Cx}{o e value:Expr}{f:Str}{pos pos' tpos:Pos}{ta tv:TE}
def qO (O:PE X e ta)(U:gS e f X.env (eval e X.env)=eval e X.env):PE X (.Attribute e f pos) (SH X.K ta f):=by
 exists 2,Q,I,h;refine NC U (thn (O oq s σ H _ I h) λu s1 zq=>?_);erw[zq,x,H1,Z,rx,a,C,dx,fs,v,ex,ea,c,n,l,q];subst ex;obtain rfl:u=UZ a:=rx;exact WK Z ea c n l λu' s2 I2 ru=>⟨v,H1,I2,ru,q⟩
def Qc (ha:PE X o ta)(O:PE X value tv)(U:Gk value (u_ (.Attribute o f pos')) pos.line X.env=pure UT):PS X (.Assign [.Attribute o f pos'] value pos) (Abd X.K ta tv f):=by
 exists 2,D,I,h;refine plainObj_wpAny_Assign_Attribute (thn (O oq s σ H _ I h) λu s1 ⟨y,H1,Z,ry,q⟩=>thn (ha oq s1 σ H1 _ Z q) λov s2 zq=>?_) U;erw[zq,x,H2,I2,rx,a,C,dx,fs,ex,ea,c,n,l,q2];subst ex;obtain rfl:ov=UZ a:=rx;exact Wa I2 ea c n l ry λs3 I3=>⟨σ,_,I3,q2⟩
def JB {Z:Gr}{rd:V->V->Hp->VK->Prop}(ha:PE X o ta)(hv:PE X value tv)(O:Aa1 X Z rd):PS X (.AugAssign (.Attribute o f tpos) Z value pos) (LY X.K ta tv rd f):=by
 exists 2,D,I,h;refine wpAny_AugAssign_AttributeAny (thn (ha oq s σ H _ I h) λov s1 zq=>?_);erw[zq,x,H1,I1,rx,a,C,dx,fs,v,ex,ea,c,n,l,q];subst ex;obtain rfl:ov=UZ a:=rx;refine WK I1 ea c n l λu s2 I2 ru=>thn (hv oq s2 σ H1 _ I2 q) λw3 s3 ⟨y,H2,I3,ry,q3⟩=>thn (O oq s3 σ H2 v y u w3 _ I3 ru ry q3) λw4 s4 zq=>?_;erw[zq,z,H3,I4,rz,dx',fs',U,l',q4];exact Wa I4 U c n l' rz λs5 I5=>⟨σ,_,I5,q4⟩
inductive Abp (x:V)(y:V)(H:Hp)(Q:VK):Prop
 |mk (i:_)(j:_)(_:x= .int i)(_:y= .int j)(_:Q (.int (i+j)) H)
def oB:Aa1 X .Add Abp:=by
 rintro oq s σ H x y u v Q I O U ⟨i,j,rfl,rfl,q⟩;obtain⟨t,rfl⟩:=(show∃t,u=VP i t from O)
 obtain⟨t',rfl⟩:=(show∃t',v=VP j t' from U)
 exact Rl ⟨.int (i+j),H,I.tok _,⟨0⟩,q⟩
end
section
variable {X:Cx}{oq:oj (o3×Obj)}{σ:St}{H:Hp}{s:o7}{A:oh}{E:o6->o7->Prop}{Q:o6->o7->Prop}{c:o6}{b:Bool}
inductive AR (K:PySem.W.Frag)(H:Hp):V->Value->Prop where
 |non:AR K H .non (.type "NoneType")
 |bl (x:Bool):AR K H (.bl x) (.type "bool")
 |int (i:Int):AR K H (.int i) (.type "int")
 |str (x:Str):AR K H (.str x) (.type "str")
 |flt (x:UInt64):AR K H (.flt x) (.type "float")
 |lst {a:Addr}{xs:List V}(e:H a=u_ (.lst xs)):AR K H (.ref a) (.type "list")
 |frz {a:Addr}{o:Obj}{xs:List V}(e:H a=u_ (.frz o (.lst xs))):AR K H (.ref a) (.type "list")
 |tup {a:Addr}{xs:List V}(e:H a=u_ (.tup xs)):AR K H (.ref a) (.type "tuple")
 |dK {a:Addr}{kvs:List (Key×V)}(e:H a=u_ (.dK kvs)):AR K H (.ref a) (.type "dict")
 |dT {a:Addr}{kvs:List (List Key×V)}(e:H a=u_ (.dT kvs)):AR K H (.ref a) (.type "dict")
 |ins {a C dx:Addr}{fs:List (Str×V)}(e:H a=u_ (.ins C dx fs))(cl:Cls K C)(ha:PySem.W.findIn K (.ref C) "__class__"=u_ (u_ (.builtin "object.__class__")))
   (hn:PySem.W.specialIn K (.builtin "object.__class__") "__get__"=u_ (u_ (.builtin "getset_descriptor.__get__"))) (htk:PySem.W.takesIn K (.builtin "object.__class__")=u_ v_)
   (hm:PySem.W.mroIn K C (.type "object")=u_ v_):AR K H (.ref a) (.ref C)
def Dq {x:V}{t:o6}(I:#[I])(U:ik x u)(ty:AR X.K H x t)(e:PySem.W.kitOne X.K t c=u_ b)(h:∀tk,Q (.bool b) {s with toks:=tk}):
  UU #[X,X] A (call (.builtin "isinstance") [u,c]) Q E s:=by
 cases ty with
 |non=>cases(show u=Vy from U);exact vo PySem.W.kitx_none I.kIn Vi e (λz=>nomatch z) h
 |bl y=>cases(show u=GY y from U);exact vo PySem.W.kitx_bool I.kIn Vi e (λz=>nomatch z) h
 |int i=>obtain⟨t,q⟩:=(show∃t,u=VP i t from U);cases q;exact vo PySem.W.kitx_int I.kIn Vi e (λz=>nomatch z) h
 |str y=>obtain⟨t,q⟩:=(show∃t,u=Vj y t from U);cases q;exact vo PySem.W.kitx_str I.kIn Vi e (λz=>nomatch z) h
 |flt y=>obtain⟨t,q⟩:=(show∃t,u=HS y t from U);cases q;exact vo PySem.W.kitx_float I.kIn Vi e (λz=>nomatch z) h
 | @lst a xs ea=>
  cases(show u=UZ a from U)
  obtain⟨_,_,n,_,h1⟩:=(show yt X.prog X.w H s.heap a (.lst xs) from I.hok a _ ea)
  exact vo PySem.W.kitx_list I.kIn [_:h1:1] e (λz=>nomatch z) h
 | @frz a ob xs ea=>
  cases(show u=UZ a from U)
  obtain⟨_,_,_,n,_,h1⟩:=(show yt X.prog X.w H s.heap a (.frz ob (.lst xs)) from I.hok a _ ea)
  exact vo PySem.W.kitx_list I.kIn [_:h1:1] e (λz=>nomatch z) h
 | @tup a xs ea=>
  cases(show u=UZ a from U)
  obtain⟨_,_,_,p⟩:=(show yt X.prog X.w H s.heap a (.tup xs) from I.hok a _ ea)
  erw[p,o,h1,h2,_];exact vo PySem.W.kitx_tuple I.kIn [o:h1:h2] e (λz=>nomatch z) h
 | @dK a kvs ea=>
  cases(show u=UZ a from U)
  obtain⟨_,_,vs,_,p⟩:=(show yt X.prog X.w H s.heap a (.dK kvs) from I.hok a _ ea)
  erw[p,o,es,ep,h1,h2,_];exact vo PySem.W.kitx_dict I.kIn [o:h1:h2.1] e (λz=>nomatch z) h
 | @dT a kvs ea=>
  cases(show u=UZ a from U)
  obtain⟨_,_,xs,_,o,es,ep,h1,h2,_⟩:=(show yt X.prog X.w H s.heap a (.dT kvs) from I.hok a _ ea)
  exact vo PySem.W.kitx_dict I.kIn [o:h1:h2.1] e (λz=>nomatch z) h
 | @ins a C dx fs ea cl ha hn htk hm=>
  cases(show u=UZ a from U)
  erw[Ka I.hok ea,mA,O,_];erw[O.look,od,J,_];exact vo (PySem.W.kitx_own (cl.get _) cl.hd ha hn htk hm) I.kIn J e (λz=>nomatch z) h
end
structure mq (k:Nat)(A:oh):Prop where
 hd:A.handled=US
 dp:A.depth+3*k+5<recursionLimit
 un:A.units+16*k+200<V3
variable {j:Nat}
def mq.mono {k:Nat}(r:mq k A)(h:j<=k):mq j A:=⟨r.hd,by have:=r.dp;omega,by have:=r.un;omega⟩
def mq.deeper {k:Nat}(r:mq (k+1) A)(env:Env):mq k (A.deeper env):=
 ⟨r.hd,by have:=r.dp;show A.depth+1+3*k+5<_;omega,by have:=r.un;show A.units+3+16*k+200<_;omega⟩
def Bn {O:oj (Str×o6)}:(A.under (.builtin "type.__call__" [.ref C::us:O])).depth=A.depth+1:=by
 first|rfl|simp[tM,Code.weight,Code.isCreation,Code.isGuard,Code.isCaller,Fg,tt,guardIds]
def Bm {O:oj (Str×o6)}:(A.under (.builtin "type.__call__" [.ref C::us:O])).units=A.units+1:=by
 first|rfl|simp[tM,Code.cUnits,Fg,tt]
def mq.make {k:Nat}(r:mq (k+1) A)(C:o3)(us:oj o6)(O:oj (Str×o6)):mq k (A.under (.builtin "type.__call__" [.ref C::us:O])):=
 ⟨r.hd,by have:=r.dp;rw[Bn];omega,by have:=r.un;rw[Bm];omega⟩
def mq.depth {k:Nat}(r:mq k A):A.depth<recursionLimit:=by have:=r.dp;omega
def mq.units {k:Nat}(r:mq k A):A.units+64<cLine:=by have:=r.un;omega
nonrec def Sh:TA:=λ_ H Q=>Q [] H
nonrec def Ll (ta:TE)(tr:TA):TA:=λσ H Q=>ta σ H λx H1=>tr σ H1 λxs H2=>Q (x::xs) H2
section
variable {X:Cx}{e:Expr}{es:oj Expr}{te:TE}{t:TA}{pos:Pos}
def qd:PA X [] Sh:=λ_ _ _ _ H Q I h=>HR ⟨[],H,I,.nil,h⟩
def qb (ha:PE X e te)(O:PA X es t)(U:UY (e::es) X.env=(UT,eval e X.env)::UY es X.env:=by rfl):PA X (e::es) (Ll te t):=by
 intro pos oq s σ H Q I h;rw[U];show UU _ _ (spliced ((UT,eval e X.env)::V6 pos (UY es X.env))) _ _ s;refine tu (thn (ha oq s σ H _ I h) λu s1 zq=>?_);erw[zq,x,H1,Z,r1,q1];exact thn (O pos oq s1 σ H1 _ Z q1) λus s2 ⟨xs,H2,I2,r2,q2⟩=>⟨x::xs,H2,I2,.cons r1 r2,q2⟩
nonrec def Aa3 (t:TA):TE:=λσ H Q=>t σ H λxs H1=>↑xs<=UX/\∀p,H1 p=US->Q (.ref p) (upd H1 p (.tup xs))
nonrec def Aa7 (t:TA):TE:=λσ H Q=>t σ H λxs H1=>↑xs<=UX/\∀p,H1 p=US->Q (.ref p) (upd H1 p (.lst xs))
def qB {x1}(h:PA X es t):PE X (.Tuple es x1 pos) (Aa3 t):=by
 exists 2,Q,I,U;refine wpAny_Tuple_spliced (thn (h pos oq s σ H _ I U) λus s1 ⟨xs,H1,O,r,z,q⟩=>⟨by rwa[<-↑r],?_⟩)
 have Z:H1 #[0,s1]=none:=O.hok.fresh (uj _);exists .ref #[0,s1],upd H1 #[0,s1] (.tup xs),O.laid (t':=s1.toks) (λb u e=>ug _ e) (uj _) ?_,1,q _ Z;exact⟨z,us,r,⟨_,uJ _ rfl,1,0⟩⟩
def QF (h:PA X es t):PE X (.List es pos) (Aa7 t):=by
 exists 2,Q,I,U;refine wpAny_List_spliced (thn (h pos oq s σ H _ I U) λus s1 ⟨xs,H1,O,r,z,q⟩=>⟨by rwa[<-↑r],?_⟩)
 have Z:H1 #[0,s1]=none:=O.hok.fresh (uj _);exists .ref #[0,s1],upd H1 #[0,s1] (.lst xs),O.laid (t':=s1.toks) (λb u e=>ug _ e) (uj _) ?_,1,q _ Z;exact⟨z,us,(0),r,uJ _ rfl⟩
end
noncomputable abbrev Sp:=oj V->Hp->VK->XK->Prop
noncomputable abbrev CXT:=oj Env->Hp->o7->XK->o6->o7->Prop
structure NT (P:o9)(w:og)(K:o0)(mg:Str->om o6)(base:o8)(A:oh)(outer:oj Env)(s:o7)(H:Hp):Prop where
 frames:A.frames=u_ outer
 mod:Mod K mg base
 bs:∀b o,base.get? b=u_ o->s.heap.get? b=u_ o/\H b=US
 bsz:base.objs.size<=#[0,s]
 funs:s.heap.FunFrames base outer
 frf:∀b∈frs outer,H b=US
 hok:HOk P w H s.heap
 bare:Vv s.gens
nonrec def CE (outer:oj Env)(P:o9)(w:og)(H:Hp)(s:o7)(Q:VK)(u:o6)(s':o7):Prop:=
 ∃v H',s'.os=s.os/\Vv s'.gens/\0<s'.toks/\Un (frs outer) [] H H' s.heap s'.heap/\HOk P w H' s'.heap/\ik v u/\Q v H'
nonrec def CR (CX:CXT)(outer:oj Env)(P:o9)(w:og)(H:Hp)(s:o7)(Q:VK)(E:XK)(r:VX)(s':o7):Prop:=
 match r with
 | .ok (.ret u)=>CE outer P w H s Q u s'
 | .ok _=>False
 | .error e=>CX outer H s E e s'
structure FnOk (P:o9)(w:og)(K:o0)(mg:Str->om o6)(base:o8)(CX:CXT)(k:Nat)(f:o3)(fd:UW)(ps:oj Str)(sp:Sp):Prop where
 len:∀vs H Q E,sp vs H Q E->↑vs=↑ps
 run:∀(A:oh) (outer:oj Env) (s:o7) (H:Hp) (args:Args) (us:oj o6) (vs:oj V) (Q:VK) (E:XK),mq k A->NT P w K mg base A outer s H->gX s fd args (ps.zip us)->im vs us->sp vs H Q E->(0<s.toks∨∃x r,ps=x::r/\fd.scope.names.lookup x=u_ .local)->
  Vn (V8 P w) A (.call (.ref f) args) (CR CX outer P w H s Q E) s
variable {mg:Str->om o6}
def NT.make {P:o9}{base:o8}{outer:oj Env}(e:NT P w K mg base A outer s H)(C:o3)(us:oj o6)(O:oj (Str×o6)):
  NT P w K mg base (A.under (.builtin "type.__call__" [.ref C::us:O])) outer s H:=⟨by first|exact e.frames|(simpa [tM,Code.envs,tt,pushEnvs] using e.frames),e.mod,e.bs,e.bsz,e.funs,e.frf,e.hok,e.bare⟩
section
variable {X:Cx}{oq:oj (o3×Obj)}{σ:St}{H:Hp}{s s':o7}
def Inv.env0 (I:#[I]):NT X.prog X.w X.K X.mg X.base X.A X.stack s H:=
 ⟨I.ok.frames,I.ok.mod,I.bs,uQ I.ok.bsz I.sz,I.stack,I.stkFree,I.hok,I.bare⟩
variable {Q:VK}
def Inv.after (I:#[I])(h:CE X.stack X.prog X.w H s Q u s'):EP X oq σ Q u s':=by
 erw[h,v,H',os,bare,htk,un,hok,r,q];erw[s',U,g,d,t,O];obtain rfl:O=s.os:=os;exact⟨v,H',I.call (h':=U) (g':=g) (d':=d) (t':=t) (ch:= []) un hok bare (λb z=>A8 z (by simp)),r,q⟩
end
nonrec def SM (sp:Sp)(dvs:oj V)(E:XK)(t:TA):TE:=λσ H Q=>t σ H λvs H1=>sp (vs++dvs) H1 Q E
inductive RX (C:Addr)(m:Str)(sp:Sp)(dvs:List V)(E:XK)(t:TA)(σ:St)(Q:VK)(x:V)(H1:Hp):Prop
 |mk (a:_)(dx:_)(fs:_)(_:x= .ref a)(_:H1 a=u_ (.ins C dx fs))(_:fs.lookup m=US)(_:t σ H1 λvs H2=>sp (x::(vs++dvs)) H2 Q E)
nonrec def Ol (C:o3)(m:Str)(sp:Sp)(dvs:oj V)(E:XK)(ta:TE)(t:TA):TE:=λσ H Q=>ta σ H λx H1=>RX C m sp dvs E t σ Q x H1
nonrec def SG (C:o3)(sp:Sp)(dvs:oj V)(E:XK)(t:TA):TE:=λσ H Q=>t σ H λvs H1=>∀x dx,H1 x=US->H1 dx=US->dx≠x->
 sp (.ref x::(vs++dvs)) (upd (upd H1 dx (.own x)) x (.ins C dx [])) (λv H2=>v= .non/\Q (.ref x) H2) E
nonrec def zi (K:o0)(fd:UW)(ps:oj Str)(ds:oj o6):Prop:=
 ∀(s:o7) (us:oj o6),K.In s.heap->↑(us++ds)=↑ps->gX s fd [us:[]] (ps.zip (us++ds))
def zi.all {fd:UW}{ps:oj Str}(h:∀us:oj o6,↑us=↑ps->VM fd [us:[]]=pure (ps.zip us)):zi K fd ps []:=λs us _ O=>by
 rw[vQ] at O⊢;exact .of_eq (h us O)
nonrec def XM (CX:CXT)(X:Cx)(E:XK):Prop:=∀(oq:oj (o3×Obj)) (σ:St) (H:Hp) (s:o7) (e:o6) (s':o7),#[I]->CX X.stack H s E e s'->X.xe e s'
section
variable {X:Cx}{CX:CXT}{k:Nat}{f C:o3}{fd:UW}{ps:oj Str}{sp:Sp}{dvs:oj V}{ds:oj o6}{E:XK}{x m:Str}{p pos apos:Pos}{e o:Expr}{es:oj Expr}{ta:TE}{t:TA}
def sU {oq:oj (o3×Obj)}{σ:St}{H:Hp}{s:o7}{Q:VK}{us:oj o6}{vs:oj V}(F:FnOk X.prog X.w X.K X.mg X.base CX k f fd ps sp)(Z:mq k X.A)(hb:zi X.K fd ps ds)(hd:im dvs ds)(hx:XM CX X E)
  (I:#[I]) (r:im vs us) (h:sp (vs++dvs) H Q E):UU #[X,X] X.A (call (.ref f) us) (EP X oq σ Q) X.xe s:=by
 have U:im (vs++dvs) (us++ds):=r.append hd;have hl:↑(us++ds)=↑ps:=by rw[<-↑U];exact F.len _ _ _ _ h
 refine HG (Hi (F.run X.A X.stack s H [us:[]] (us++ds) (vs++dvs) Q E Z I.env0 (hb s us I.kIn hl) U h (.inl I.tk)) λr s' O=>?_);cases r with
 |error e=>exact hx oq σ H s e s' I O
 |ok fl=>
  cases fl with
  |ret u=>exact I.after O
  |next=>exact Vh O
  |brk=>exact Vh O
  |cont=>exact Vh O
def qu (F:FnOk X.prog X.w X.K X.mg X.base CX k f fd ps sp)(hr:mq k X.A)(hg:Gl X x)(hm:X.mg x=u_ (.ref f))(hk:PySem.W.keepIn X.K (.ref f)=v_)(hb:zi X.K fd ps ds)(hd:im dvs ds)(hx:XM CX X E)
  (ha:PA X (e::es) t) (O:(x==("__debug__":Str))=UT) (he:UY (e::es) X.env=(UT,eval e X.env)::UY es X.env) (U:(V6 pos (UY es X.env)).any (·.1)=UT):
  PE X (.Call (.Name x p) (e::es) [] pos) (SM sp dvs E t):=by
 exists 2,Q,I,h;refine Uz (kr I hg hm ?_ O);refine UA (h₀:=X.base) I.ok.mod.kin hk (thn (ha pos oq s σ H _ I h) λus s1 ⟨vs,H1,Z,r,q⟩=>[Z.kIn:?_]) he U;exact sU F hr hb hd hx Z r q
def Qg {pl:Sem Bool}(he:PE X o ta)(c:Cls X.K C)(hm:Sm X.K C m f)(F:FnOk X.prog X.w X.K X.mg X.base CX k f fd ps sp)(hr:mq k X.A)(hb:zi X.K fd ps ds)(hd:im dvs ds)(hx:XM CX X E)(ha:PA X (e::es) t)
  (O:UY (e::es) X.env=(UT,eval e X.env)::UY es X.env) (U:(V6 pos (UY es X.env)).any (·.1)=UT)
  (ht:eval (.Call (.Attribute o m apos) (e::es) [] pos) X.env=(do
   let ov<-eval o X.env
   Go apos.atName
   let(f,first)<-VQ [ov] (GW ov m pl)
   HY pos f first (V6 pos (UY (e::es) X.env)) (Gf pos (Gb [] X.env)))):
  PE X (.Call (.Attribute o m apos) (e::es) [] pos) (Ol C m sp dvs E ta t):=by
 exists 2,Q,I,h;refine PySem.W.methodCall_KW (pl:=pl) (thn (he oq s σ H _ I h) λu s1 zq=>?_) ht;erw[zq,x,H1,Z,rx,a,dx,fs,ex,ea,l,q];subst ex;obtain rfl:u=UZ a:=rx;refine Wq Z ea c hm l ?_;refine UA (first:= [.ref a]) (h₀:=X.base) I.ok.mod.kin hm.kp (thn (ha pos oq s1 σ H1 _ Z q) λus s2 ⟨vs,H2,I2,r,q2⟩=>[I2.kIn:?_]) O U;exact sU (us:= .ref a::us) (vs:= .ref a::vs) F hr hb hd hx I2 (.cons rfl r) q2
def QA {pl:Sem Bool}(U:PE X o ta)(c:Cls X.K C)(hm:Sm X.K C m f)(F:FnOk X.prog X.w X.K X.mg X.base CX k f fd ps sp)(Z:mq k X.A)(hb:zi X.K fd ps ds)(hd:im dvs ds)(hx:XM CX X E)
  (ht:eval (.Call (.Attribute o m apos) [] [] pos) X.env=(do
   let ov<-eval o X.env
   Go apos.atName
   let(f,first)<-VQ [ov] (GW ov m pl)
   HY pos f first (V6 pos (UY [] X.env)) (Gf pos (Gb [] X.env)))):
  PE X (.Call (.Attribute o m apos) [] [] pos) (Ol C m sp dvs E ta Sh):=by
 exists 2,Q,I,h;refine PySem.W.methodCall_KW (pl:=pl) (thn (U oq s σ H _ I h) λu s1 zq=>?_) ht;erw[zq,x,H1,O,rx,a,dx,fs,ex,ea,l,q];subst ex;obtain rfl:u=UZ a:=rx;refine Wq O ea c hm l ?_;exact PySem.W.callWith_K0 (first:= [.ref a]) O.kIn hm.kp (sU (us:= [.ref a]) (vs:= [.ref a]) F Z hb hd hx O (.cons rfl .nil) q)
structure Mk (K:o0)(C f:o3):Prop where
 makes:PySem.W.makesIn K C=v_
 init:PySem.W.findIn K (.ref C) "__init__"=u_ (u_ (.ref f))
 fn:PySem.W.isFn K (.ref f)=v_
 kp:PySem.W.keepIn K (.ref C)=v_
def EM {oq:oj (o3×Obj)}{σ:St}{H:Hp}{s:o7}{Q:VK}{us:oj o6}{vs:oj V}(M:Mk X.K C f)(F:FnOk X.prog X.w X.K X.mg X.base CX k f fd ps sp)(hr:mq (k+1) X.A)(hb:zi X.K fd ps ds)(hd:im dvs ds)
  (hx:XM CX X E) (I:#[I]) (r:im vs us)
  (h:∀x dx,H x=US->H dx=US->dx≠x->sp (.ref x::(vs++dvs)) (upd (upd H dx (.own x)) x (.ins C dx [])) (λv H2=>v= .non/\Q (.ref x) H2) E):
  UU #[X,X] X.A (call (.ref C) us) (EP X oq σ Q) X.xe s:=by
 have Z:=h (#[0,s]+1) #[0,s] (I.hok.fresh (GT _)) (I.hok.fresh (uj _)) (uR (HZ _));have U:=Inv.made (C:=C) I;have r2:im (V.ref (#[0,s]+1)::(vs++dvs)) (UZ (#[0,s]+1)::(us++ds)):= .cons rfl (r.append hd);have hl:↑(UZ (#[0,s]+1)::us++ds)=↑ps:=by
  have e:=↑r2;rw[F.len _ _ _ _ Z] at e;exact e.symm
 refine HG (Iu (f:=f) I.kIn M.makes M.init (beq_iff_eq.mp M.fn) (Hi (F.run _ X.stack _ _ [UZ (#[0,s]+1)::us:[]] (UZ (#[0,s]+1)::(us++ds)) _ _ E (hr.make C us [])
  (U.env0.make C us []) (hb _ (UZ (#[0,s]+1)::us) U.kIn hl) r2 Z (.inl U.tk)) λr s' O=>?_))
 cases r with
 |error e=>exact hx oq σ _ _ e s' U O
 |ok fl=>
  cases fl with
  |ret u=>
   erw[U.after O,v,H',I3,rv,ev,q3];subst ev;exact[rv:⟨V.ref (#[0,s]+1),H',I3,1,q3⟩]
  |next=>exact Vh O
  |brk=>exact Vh O
  |cont=>exact Vh O
def wK (M:Mk X.K C f)(F:FnOk X.prog X.w X.K X.mg X.base CX k f fd ps sp)(hr:mq (k+1) X.A)(hg:Gl X x)(hm:X.mg x=u_ (.ref C))(hb:zi X.K fd ps ds)(hd:im dvs ds)(hx:XM CX X E)
  (ha:PA X (e::es) t) (O:(x==("__debug__":Str))=UT) (he:UY (e::es) X.env=(UT,eval e X.env)::UY es X.env) (U:(V6 pos (UY es X.env)).any (·.1)=UT):
  PE X (.Call (.Name x p) (e::es) [] pos) (SG C sp dvs E t):=by
 exists 2,Q,I,h;refine Uz (kr I hg hm ?_ O);refine UA (h₀:=X.base) I.ok.mod.kin M.kp (thn (ha pos oq s σ H _ I h) λus s1 ⟨vs,H1,Z,r,q⟩=>[Z.kIn:?_]) he U;exact EM M F hr hb hd hx Z r q
end
structure qv (N P:oj Str)(sc:V9):Prop where
 kind:sc.kind= .function
 co:sc.isCoroutine=UT
 gen:sc.isGenerator=UT
 nd:N.Nodup
 pre:N.take ↑P=P
 par:∀x∈P,sc.names.lookup x=u_ .local∨sc.names.lookup x=u_ .cell
 nofree:∀y∈sc.names,y.2≠ .free
def oS {kindOf:Str->om Vp}{x:Str}:∀{binds:oj (Str×o6)}{m:Str->om o6},(∀v,(x,v)∉binds)->Vr kindOf binds m x=m x
 | [],_,_=>rfl
 |(n,v)::r,m,h=>by
  unfold Vr;rw[oS λw O=>h w (uh _ O)];split
  ·have:x≠n:=by rintro rfl;exact h v ui
   simp[this]
  ·rfl
def oU {kindOf:Str->om Vp}{x:Str}:∀{binds:oj (Str×o6)}{m:Str->om o6},(∀v,(x,v)∉binds)->Vo kindOf binds m x=m x
 | [],_,_=>rfl
 |(n,v)::r,m,h=>by
  unfold Vo;rw[oU λw O=>h w (uh _ O)];split
  ·rfl
  ·have:x≠n:=by rintro rfl;exact h v ui
   simp[this]
def oT {kindOf:Str->om Vp}{x:Str}{v:o6}:∀{P:oj Str}{vs:oj o6}{i:Nat}{m:Str->om o6},P.Nodup->P[i]? =u_ x->vs[i]? =u_ v->kindOf x=u_ .local->
  Vr kindOf (P.zip vs) m x=u_ v
 | [],_,_,_,_,h,_,_=>by simp at h
 |_::_,[],_,_,_,_,h,_=>by simp at h
 |p::P,w::vs,0,m,nd,h1,h2,hk=>by
  simp at h1 h2;subst h1;subst h2;show Vr kindOf ((p,w)::P.zip vs) m p=_;unfold Vr;rw[oS λv O=>(List.nodup_cons.mp nd).1 (HM O).1,A6 hk];simp
 |p::P,w::vs,i+1,m,nd,h1,h2,hk=>by
  show Vr kindOf ((p,w)::P.zip vs) m x=_;unfold Vr;exact oT (i:=i) (List.nodup_cons.mp nd).2 (by simpa using h1) (by simpa using h2) hk
def oV {kindOf:Str->om Vp}{x:Str}{v:o6}:∀{P:oj Str}{vs:oj o6}{i:Nat}{m:Str->om o6},P.Nodup->P[i]? =u_ x->vs[i]? =u_ v->kindOf x≠u_ .local->
  Vo kindOf (P.zip vs) m x=u_ v
 | [],_,_,_,_,h,_,_=>by simp at h
 |_::_,[],_,_,_,_,h,_=>by simp at h
 |p::P,w::vs,0,m,nd,h1,h2,hk=>by
  simp at h1 h2;subst h1;subst h2;show Vo kindOf ((p,w)::P.zip vs) m p=_;unfold Vo;rw[oU λv O=>(List.nodup_cons.mp nd).1 (HM O).1,A4 hk];simp
 |p::P,w::vs,i+1,m,nd,h1,h2,hk=>by
  show Vo kindOf ((p,w)::P.zip vs) m x=_;unfold Vo;exact oV (i:=i) (List.nodup_cons.mp nd).2 (by simpa using h1) (by simpa using h2) hk
nonrec def W9 (N:oj Str)(vs:oj V):St:=vs.map u_++R6 (↑N-↑vs) US
nonrec def cxOf (CX:CXT)(P:o9)(w:og)(K:o0)(mg:Str->om o6)(base:o8)(N:oj Str)(qual:Str)(scope:V9)(f:o3)(cd:o6)(A:oh)(outer:oj Env)(s:o7)(H:Hp)(E:XK):Cx where
 prog:=P
 w:=w
 K:=K
 mg:=mg
 base:=base
 A:=A.deeper (U_ qual scope #[0,s] f cd)
 N:=N
 s₀:=s
 H₀:=H
 env:=U_ qual scope #[0,s] f cd
 outer:=outer
 stack:=U_ qual scope #[0,s] f cd::outer
 ex:= []
 calm:=v_
 fn:=λ_=>v_
 pn:= []
 xe:=λe s'=>UU (V8 P w) (A.deeper (U_ qual scope #[0,s] f cd)) (tU (U_ qual scope #[0,s] f cd) e) (λ_ s''=>CX outer H s E e s'') (λe' s''=>CX outer H s E e' s'') s'
variable {n:Nat}{x:Str}
def AM {sc:V9}(h:sc.names.lookup x=u_ .cell):∃c,(Gg n sc.names []).lookup x=u_ c:=by
 have q:=PySem.W.cellsFrom_some sc.names n [] (.inl h);exact Option.isSome_iff_exists.mp q
def Du {CX:CXT}{P:o9}{w:og}{K:o0}{mg:Str->om o6}{base:o8}{N ps:oj Str}{qual:Str}{scope:V9}{f:o3}{cd:o6}{A:oh}{outer:oj Env}{s s1:o7}{H:Hp}{E:XK}{us:oj o6}{vs:oj V}
  (S:qv N ps scope) (hd:A.handled=US) (O:NT P w K mg base A outer s H) (hl:↑vs=↑ps) (r:im vs us)
  (x:Gx s #[0,s] (Vr (U_ qual scope #[0,s] f cd).kindOf (ps.zip us) λ_=>US) (Gg (#[0,s]+1) scope.names []) (Vo (U_ qual scope #[0,s] f cd).kindOf (ps.zip us) λ_=>US) s1) (ac:0<s1.toks):
  Inv (cxOf CX P w K mg base N qual scope f cd A outer s H E) [] (W9 N vs) H s1:=by
 have ad:↑ps<=↑N:=by have:=A9 VD S.pre;rw[vN] at this;omega
 erw[x.done,h1,tk,rfl,hk];have U:∀b:o3,b∉(cxOf CX P w K mg base N qual scope f cd A outer s H E).ex:=λb z=>A8 (show b∈([]:oj o3) from z) (by simp)
 exists ⟨O.mod,S.kind,1,1,uj _,λy z c h1 h2=>?_,λy Z=>?_,λy c _ h=>?_,λ_=>hd,Around.frames_deeper O.frames,.inr [1:1],λb z=>A8 z (U b),O.bs,O.bsz,λb _ _=>U b,λb z=>A8 z (U b),O.funs,O.frf⟩,1,O.bare,Un.kept hk,[_:x.toInCall.ns:λi y v h1 h2 h3=>?_],λy c h=>[_:x.cell y c h],O.hok.fresh (uj _),λy c h=>?_,λp hp=>A8 (show p∈([]:oj (o3×Obj)) from hp) (by simp),O.hok.kept hk,?_,ac
 ·exact name_of_addr x.apart (vB h1) (vB h2)
 ·have Z:scope.names.lookup y=u_ .cell∨scope.names.lookup y=u_ .free:=Z;rcases Z with Z|Z
  ·exact AM Z
  ·exact A8 rfl (S.nofree _ (vB Z))
 ·exact UN (x.above y c (vB h))
 ·have hi:i<↑vs:=by
   unfold W9 at h2;by_cases hi:i<↑vs
   ·exact hi
   ·rw[Um (by simpa using hi)] at h2
    rw[Rh] at h2;split at h2<;>cases h2
  have ha:vs[i]? =u_ v:=by
   unfold W9 at h2;rw[Uq (by simpa using hi),uN] at h2
   cases e:vs[i]? with
   |none=>rw[e] at h2;cases h2
   |some a=>rw[e] at h2;cases h2;rfl
  erw[r.get ha,u,hu,rv];have hp:ps[i]? =u_ y:=by
   rwa[<-S.pre,List.getElem?_take_of_lt ()]
  have aa:ps.Nodup:=by rw[<-S.pre];exact S.nd.sublist (FA _ _)
  exists u,rv;rcases S.par y (vi hp) with k|k
  ·exact .inl [k:oT aa hp hu k]
  ·erw[AM (n:=#[0,s]+1) k,c,e];refine .inr ⟨.inl k,c,e,?_⟩;have q:=x.cell y c e;rw[oV aa hp hu (by show scope.names.lookup y≠_;rw[k];decide)] at q
   exact q
 ·exact O.hok.fresh (UN (x.above y c (vB h)))
 ·unfold W9;show _=↑N;rw[uA,ue,Ft];omega
def sG {M:G9}{A:oh}{E:o6->o7->Prop}{s₀ s:o7}{m Z:Str->om o6}{env:Env}(f:Str×o6->PUnit->Sem (ForInStep PUnit))(hf:∀n v u,f (n,v) u=(do hX env n v;pure (.yield ⟨⟩)))(O:env.scope.kind= .function)
  (n:Str) (v:o6) (r:oj (Str×o6)) (Q:PUnit->o7->Prop) (x:Gx s₀ env.locals m env.cells Z s) (hl:env.kindOf n=u_ .local)
  (aa:∀x∈r,env.kindOf x.1=u_ .local∨(env.kindOf x.1=u_ .cell/\(env.cells.lookup x.1).isSome=v_))
  (h:∀s',Gx s₀ env.locals (Vr env.kindOf ((n,v)::r) m) env.cells (Vo env.kindOf ((n,v)::r) Z) s'->0<s'.toks->Q ⟨⟩ s'):UU M A (Vu ((n,v)::r) ⟨⟩ f) Q E s:=by
 rw[Uh,hf];refine A7 (A7 (rP hl x.toInCall.ns (λh' ac U=>uF ?_) (by rw[O];rfl)))
 have x1:Gx s₀ env.locals (λy=>if y=n then u_ v else m y) env.cells Z {s with heap:=h',toks:=s.toks+1}:=by
  exists ⟨?_,ac,λb o e=>?_,x.toInCall.fresh⟩,λk c hc=>?_,x.apart,x.above
  ·erw[x.toInCall.same,h₁,tk,rfl];exact[h':0]
  ·have:=x.toInCall.keep b o e;exact U.extBut b o (uR (V5 (uI e) x.toInCall.fresh)) (x.toInCall.keep b o e)
  ·exact(x.cell k c hc).sameBut U (Ug (x.above k c (mem_of_lookup hc)))
 refine v9 (n:=1) (Rf (uW _)) (wpAny_bindParams f hf O r _ _ _ _ x1 aa λs' y h1=>h s' ?_ h1);unfold Vr Vo;rw[A6 hl,A6 hl];exact y
def C5 {M:G9}{A:oh}{E:o6->o7->Prop}{s:o7}{scope:V9}{globals:o3}{binds:oj (Str×o6)}{qual:Str}{func:om o3}{O:o6}{builtins:o3}{Q:Env->o7->Prop}
  (Z:scope.kind= .function)
  (aa:∀x∈binds,scope.names.lookup x.1=u_ .local∨(scope.names.lookup x.1=u_ .cell/\((Gg (#[0,s]+1) scope.names []).lookup x.1).isSome=v_))
  (htk:0<s.toks∨∃n v r,binds=(n,v)::r/\scope.names.lookup n=u_ .local)
  (hq:∀en,en=newEnv scope #[0,s] globals (Gg (#[0,s]+1) scope.names []) qual func O US builtins->
   ∀s',Gx s en.locals (Vr en.kindOf binds λ_=>US) en.cells (Vo en.kindOf binds λ_=>US) s'->0<s'.toks->Q en s'):
  UU M A (Ht scope globals [] binds qual func O US builtins) Q E s:=by
 rcases htk with htk|⟨n,v,r,rfl,hl⟩
 ·exact v9 (n:=1) htk (wpAny_newFunctionEnv_cells Z aa λenv he s' x h1=>hq env he s' x h1)
 ·simp![Ht,Hj,UB,if_false];refine A7 (wpAny_alloc ?_);refine A7 (wpAny_layCells _ (λname kind cells=>by cases ac:kind==VH<;>simp[ac]) _ _ _ _ ?_)
  have U:=cellsFrom_ok scope.names (s.heap.push {cls:= .type "frame",data:= .dict #[]}) (#[0,s]+1) [] [λ_ _ hm=>(nomatch hm):Ff] (by rw[vn];exact uj _);rw[vn] at U;rw[show({s with heap:=s.heap.push {cls:= .type "frame",data:= .dict #[]}}:o7).heap.objs.size=#[0,s]+1 from vn ..]
  exact A7 (sG (s₀:=s) (env:=newEnv scope #[0,s] globals (Gg (#[0,s]+1) scope.names []) qual func O US builtins)
   _ (λ_ _ _=>rfl) Z n v r _
   ⟨⟨⟨_,_,by rfl⟩,(Heap.Ns.new s.heap (.type "frame")).keeps (R9 _ _),λb o e=>R9 _ _ b o (ug _ e),uj _⟩,
    λm c hc=>(U.empty m c (mem_of_lookup hc)).1,U.apart,λn c hm=>(U.empty n c hm).2⟩
   hl (λy hy=>aa y (uh _ hy)) λs' x h1=>uF (hq _ rfl s' x h1))
def PD {CX:CXT}{P:o9}{w:og}{K:o0}{mg:Str->om o6}{base:o8}{k:Nat}{f:o3}{name qual:Str}{O:Arguments}{U:oj Stmt}{scope:V9}{dV kV doc pm cdv ct oc:o6}{an od:om o3}
  {osl:Array (om o6)}{N ps:oj Str}{sp:Sp} (lk:K.lookup f=u_ ⟨oc,od,.func (PySem.W.fnOf name qual O U scope dV kV doc pm an cdv ct),osl⟩) (ae:PySem.W.codeIn K cdv qual=v_) (S:qv N ps scope)
  (len:∀vs H Q E,sp vs H Q E->↑vs=↑ps)
  (Z:∀(A:oh) (outer:oj Env) (s:o7) (H:Hp) (vs:oj V) (Q:VK) (E:XK),mq k (A.deeper (U_ qual scope #[0,s] f cdv))->sp vs H Q E->
   ∃t,PSs (cxOf CX P w K mg base N qual scope f cdv A outer s H E) U t/\t {nx:=λ_ H'=>Q .non H',rt:=Q} (W9 N vs) H):
  FnOk P w K mg base CX (k+1) f (PySem.W.fnOf name qual O U scope dV kV doc pm an cdv ct) ps sp:=by
 exists len,λA outer s H args us vs Q E hr e0 hb r ac htk=>?_;have hl:=len _ _ _ _ ac;have KX:K.In s.heap:=e0.mod.kin.keeps λb o e=>(e0.bs b o e).1;have af:s.heap.NoLimit:=e0.mod.nolimit.keeps λb o e=>(e0.bs b o e).1;have aa:∀y∈ps.zip us,scope.names.lookup y.1=u_ .local∨(scope.names.lookup y.1=u_ .cell/\((Gg (#[0,s]+1) scope.names []).lookup y.1).isSome=v_):=λ⟨n,v⟩ hy=>by
  rcases S.par n (HM hy).1 with q|q
  ·exact .inl q
  ·exact .inr [q:PySem.W.cellsFrom_some _ _ _ (.inl q)]
 have ad:0<s.toks∨∃n v r,ps.zip us=(n,v)::r/\scope.names.lookup n=u_ .local:=by
  rcases htk with h|⟨y,q,e,hy⟩
  ·exact .inl h
  ·have:↑us=↑ps:=by rwa[<-↑r]
   subst e
   match us,this with
   |u::us',_=>exact .inr ⟨y,u,q.zip us',1,hy⟩
 refine codeAny_call_function hr.depth (KX _ _ lk) rfl S.co S.gen rfl (PySem.W.codeRec_of KX ae) (hb _ _ _ _ ?_);refine C5 S.kind aa ad λenv he s1 x ag=>?_;subst he;exists af.keeps x.toInCall.keep,codeAny_func ?_;erw[Z A outer s H vs Q E (hr.deeper _) ac,t,ht,hq];have I:Inv (cxOf CX P w K mg base N qual scope f cdv A outer s H E) [] (W9 N vs) H s1:=Du S hr.hd e0 hl r x ag;refine vI (ht [] s1 (W9 N vs) H _ I hq) (λfl s' hs=>?_) λe s' hs=>hs;have fin:∀{σ':St}{H':Hp}{v:V}{u:o6},Inv (cxOf CX P w K mg base N qual scope f cdv A outer s H E) [] σ' H' s'->ik v u->Q v H'->CE outer P w H s Q u s':=
  λ{σ' H' v u} J rv q=>⟨v,H',J.os,J.bare,J.tk,J.base,J.hok,rv,q⟩
 cases fl with
 |ret u=>
  erw[hs,v,σ',H',J,rv,q];exact fin J rv q
 |next=>
  erw[hs,σ',H',J,q];exact fin (v:=V.non) (u:=Vy) J rfl q
 |brk=>
  erw[hs,_,_,_,q];exact Vh q
 |cont=>
  erw[hs,_,_,_,q];exact Vh q
section
variable {X:Cx}{x:Str}{p pos:Pos}{e:Expr}{es:oj Expr}{t:TA}{id T:String}{r:oj V->Hp->VK->Prop}
nonrec def tCB (r:oj V->Hp->VK->Prop)(t:TA):TE:=λσ H Q=>t σ H λvs H1=>r vs H1 Q
def qy (Z:YN X (.builtin id) r)(hg:Gl X x)(hm:X.mg x=US)(hv:Ge x=u_ (.builtin id))(ha:PA X (e::es) t)(hn:x≠"__name__")(O:(x==("__debug__":Str))=UT)
  (he:UY (e::es) X.env=(UT,eval e X.env)::UY es X.env) (U:(V6 pos (UY es X.env)).any (·.1)=UT):PE X (.Call (.Name x p) (e::es) [] pos) (tCB r t):=by
 exists 2,Q,I,h;refine Uz (WF I hg hm hv ?_ hn O);exact RE (thn (ha pos oq s σ H _ I h) λus s1 ⟨vs,H1,I1,r1,q1⟩=>Z oq s1 σ H1 vs us Q I1 r1 q1) he U
def Ql (Z:YN X (.type T) r)(hg:Gl X x)(hm:X.mg x=US)(hv:Ge x=u_ (.type T))(ha:PA X (e::es) t)(hn:x≠"__name__")(O:(x==("__debug__":Str))=UT)
  (he:UY (e::es) X.env=(UT,eval e X.env)::UY es X.env) (U:(V6 pos (UY es X.env)).any (·.1)=UT):PE X (.Call (.Name x p) (e::es) [] pos) (tCB r t):=by
 exists 2,Q,I,h;refine Uz (WF I hg hm hv ?_ hn O);exact vP (thn (ha pos oq s σ H _ I h) λus s1 ⟨vs,H1,I1,r1,q1⟩=>Z oq s1 σ H1 vs us Q I1 r1 q1) he U
end
end L2
namespace HT
open PySem PyProof.Rows
section
variable {prog:o9}{w:og}{A:oh}{E:o6->o7->Prop}{s:o7}
def cat_tup {t b:o3}{vs ws:oj o6}{Q:o6->o7->Prop}(ht:gT s.heap t vs.toArray)(hb:gT s.heap b ws.toArray)(hv:vs≠ [])
  (h1:ws= []->Q (.ref t) s) (h2:ws≠ []->Q (.ref #[0,s]) {s with heap:=s.heap.push {cls:= .type "tuple",data:= .seq (vs++ws).toArray}})
  (hsz:↑vs+↑ws<=UX):UU #[w,w] A (Vl .Add (.ref t) (.ref b)) Q E s:=by
 erw[id ht,[cls,dd,data,sl],ho,hc,n,hd];erw[id hb,[ae,U,ad,Z],O,aa,n2,ac];simp only at hc hd aa ac;subst hc hd aa ac;have e:vs.toArray++ws.toArray=(vs++ws).toArray:=by simp
 by_cases hw:ws= []
 ·exact tL [_:ho:1] [_:O:1] T4 tF PySem.F.slot_tuple_add UC (Uv _ _)
   (tuple_addW1 t b vs.toArray ws.toArray n n2 dd U sl Z (by simpa using hv) (by simp[hw])) [ho:O:h1 hw]
 ·refine tL [_:ho:1] [_:O:1] T4 tF PySem.F.slot_tuple_add UC (Uv _ _)
   (tuple_addW2 t b vs.toArray ws.toArray n n2 dd U sl Z (by simpa using hv) (by simpa using hw) (by rwa[uw,uw])) [ho:O:?_]
  rw[e];exact h2 hw
nonrec def sIx (n d:Nat):om Int->Nat
 |none=>d
 |some v=>if v<0 then(v+(n:Int)).toNat else min v.toNat n
def sIx_none (n d:Nat):sIx n d US=d:=rfl
def sIx_nat (n d k:Nat):sIx n d (u_ (k:Int))=min k n:=by
 show(if(k:Int)<0 then((k:Int)+(n:Int)).toNat else min (k:Int).toNat n)=min k n
 rw[A4 (),T2]
def OF (n d:Nat)(hd:d<=n)(o:om Int):sIx n d o<=n:=by
 cases o with
 |none=>exact hd
 |some v=>
  show(if v<0 then(v+(n:Int)).toNat else min v.toNat n)<=n
  by_cases O:v<0
  ·rw[A6 O];omega
  ·rw[A4 O];exact Nat.min_le_right _ _
def D3 (v:Int)(n d:Nat):(if v<0 then max (v+(n:Int)) 0 else min v (n:Int))=((sIx n d (u_ v):Nat):Int):=by
 show(if v<0 then max (v+(n:Int)) 0 else min v (n:Int))=(((if v<0 then(v+(n:Int)).toNat else min v.toNat n):Nat):Int)
 by_cases O:v<0
 ·simp![A6 O];omega
 ·simp![A4 O];omega
def Bx (lo hi:om Int)(n:Nat):tQ lo hi 1 (n:Int)=(((sIx n 0 lo:Nat):Int),((sIx n n hi:Nat):Int)):=by
 have h1:¬((1:Int)<0):=by omega
 unfold tQ;simp![h1,if_false];refine Prod.ext ?_ ?_
 ·cases lo with
  |none=>rfl
  |some v=>exact D3 v n 0
 ·cases hi with
  |none=>rfl
  |some v=>exact D3 v n n
def Bh (i j:Nat):GL (i:Int) (j:Int) 1=j-i:=by
 unfold GL;have h1:(1:Int)>0:=by omega
 simp![h1,if_true,Int.ediv_one];split<;>omega
def WS {v:o6}{o:om Int}{Q:om Int->o7->Prop}(p:Vt v o)(h:Q o s):UU #[w,w] A (Rv v) Q E s:=by
 cases p with
 |none=>exact rS h
 |int i t=>exact slicePart_int h
def jJ {sl:o3}{Z vu:o6}{lo hi:om Int}{n:Nat}{Q:Int×Int×Nat->o7->Prop}(hs:s.heap.IsSliceOf sl Z vu .none)(pl:Vt Z lo)(pu:Vt vu hi)
  (h:Q (((sIx n 0 lo:Nat):Int),1,sIx n n hi-sIx n 0 lo) s):UU #[w,w] A (R7 (.ref sl) (pure (n:Int))) Q E s:=by
 erw[id hs,os,O,aa,U];unfold R7 RD;refine A7 (A7 (vy O U (x:=Z) rfl (A7 (vy O U (x:=vu) rfl (A7 (vy O U (x:= .none) rfl (uF ?_)))))));refine A7 (rS ?_);show UU _ _ (if((1:Int)==0)=v_ then _ else _) _ _ s
 rw[A4 ()]
 refine A7 (WS pl (A7 (WS pu (A7 (uF ?_)))));show UU _ _ (match tQ lo hi 1 (n:Int) with|(lo,hi)=>pure (lo,(1:Int),GL lo hi 1)) _ _ s
 rw[Bx lo hi n];show UU _ _ (pure (((sIx n 0 lo:Nat):Int),(1:Int),GL ((sIx n 0 lo:Nat):Int) ((sIx n n hi:Nat):Int) 1)) _ _ s;rw[Bh];exact uF h
def ES (xs:Array o6)(i k:Nat):((V1 k).filterMap λ(m:Nat)=>xs[((i:Int)+(m:Int)*1).toNat]?).toArray=((xs.toList.drop i).take k).toArray:=by
 have e:(λ(m:Nat)=>xs[((i:Int)+(m:Int)*1).toNat]?)=λm=>xs[i+m]? :=by
  funext m
  have:((i:Int)+(m:Int)*1).toNat=i+m:=by omega
  rw[this]
 rw[e];have:=pick_run xs i k;rw[List.filterMap_map] at this;have O:((λx=>xs[x]?)∘λx=>i+x)=λm=>xs[i+m]? :=rfl;rw[O] at this;rw[this]
def getItem_tuple_cut {t sl:o3}{items:Array o6}{vl vu:o6}{lo hi:om Int}{Q:o6->o7->Prop}(U:gT s.heap t items)(hs:s.heap.IsSliceOf sl vl vu .none)(pl:Vt vl lo)(pu:Vt vu hi)
  (hw:¬(sIx items.size 0 lo=0/\sIx items.size items.size hi=items.size))
  (h:Q (.ref #[0,s]) {s with heap:=s.heap.push {cls:= .type "tuple",data:= .seq ((items.toList.drop (sIx items.size 0 lo)).take (sIx items.size items.size hi-sIx items.size 0 lo)).toArray}})
  (hsz:items.size<=UX):UU #[w,w] A (Vm (.ref t) (.ref sl)) Q E s:=by
 have O:sizeOk (.seq ((items.toList.drop (sIx items.size 0 lo)).take (sIx items.size items.size hi-sIx items.size 0 lo)).toArray):=by
  show((items.toList.drop (sIx items.size 0 lo)).take (sIx items.size items.size hi-sIx items.size 0 lo)).toArray.size<=UX;rw[uw,vN,vS,vk];omega
 have hj:sIx items.size items.size hi<=items.size:=OF _ _ (uj _) hi;erw[id hs,os,Z,aa,ae];have ac:s.TypeIs (.ref sl) "slice":=[os:Z:aa];unfold Vm
 try with_reducible refine Vq ?_
 first|refine A7 (uF ?_)|skip
 refine A7 (rp U.typeIs () ?_)
 refine A7 (vz (name:=gU "__getitem__") U.typeIs vC
  (vT vC U.typeIs FJ ?_ (Tv _ _)))
 show UU _ _ (Tc (.ref t)>>=_) _ _ s;refine A7 (rn U ?_);refine A7 (V_ ac ?_);rw[A6 ()]
 refine A7 (jJ hs pl pu ?_);have ad:¬((((sIx items.size 0 lo:Nat):Int)==0&&(1:Int)==1&&(sIx items.size items.size hi-sIx items.size 0 lo)==items.size)=v_):=by
  intro q;rw[uC,uC] at q;have q1:((sIx items.size 0 lo:Nat):Int)=0:=eq_of_beq q.1.1;have q2:sIx items.size items.size hi-sIx items.size 0 lo=items.size:=eq_of_beq q.2;exact hw [():()]
 show UU _ _ (if(((sIx items.size 0 lo:Nat):Int)==0&&(1:Int)==1&&(sIx items.size items.size hi-sIx items.size 0 lo)==items.size)=v_ then _ else _) _ _ s
 rw[A4 ad,ES]
 first
  |exact A7 (m:=GF _) (vw (uF ⟨0,uF h⟩) O)
  |exact A7 (m:=GF _) (vw (A7 (uF (uF ⟨0,uF h⟩))) O)
  |exact A7 (A7 (m:=GF _) (vw (uF (uF ⟨0,uF h⟩)) O))
  |exact A7 (A7 (m:=GF _) (vw (uF ⟨0,uF h⟩) O))
end
end HT
namespace L2
open PySem PySem.Spec PyProof.Rows
noncomputable abbrev TO:=St->Hp->(om Int->Hp->Prop)->Prop
nonrec def PO (X:Cx)(e:om Expr)(t:TO):Prop:=
 ∀(oq:oj (o3×Obj)) (s:o7) (σ:St) (H:Hp) (Q:om Int->Hp->Prop),#[I]->t σ H Q->
  UU #[X,X] X.A (evalPart e X.env) (λu s'=>∃o H',Inv X oq σ H' s'/\Vt u o/\Q o H') X.xe s
nonrec def BL:TO:=λ_ H Q=>Q US H
inductive RW (Q:(Option Int->Hp->Prop))(x:V)(H1:Hp):Prop
 |mk (i:_)(_:x= .int i)(_:Q (u_ i) H1)
nonrec def SF (t:TE):TO:=λσ H Q=>t σ H λx H1=>RW Q x H1
def Br {ns:oj Int}:∀{us:oj o6},im (ns.map V.int) us->VU us ns:=by
 induction ns with
 |nil=>intro us r;rw[U3] at r;cases r;exact .nil
 |cons n ns O=>
  intro us r;rw[uB] at r;cases r with
  |cons U Z=>
   erw[U,t,e];subst e;exact .cons n t (O Z)
section
variable {X:Cx}{e:Expr}{te:TE}{lo hi:om Expr}{tl th:TO}{pos p2:Pos}
def Zu:PO X US BL:=by
 exists 2,Q,I,h;rw[tI];exact uF ⟨US,H,I,.none,h⟩
def XT (h:PE X e te):PO X (u_ e) (SF te):=by
 exists 2,Q,I,O;rw[Tl];refine thn (h oq s σ H _ I O) λu s1 zq=>?_;erw[zq,x,H1,U,Z,q1];erw[q1,i,rfl,q];erw[Z,t,rfl];exact⟨u_ i,H1,U,.int i t,q⟩
nonrec def SlR (X:Cx)(r:V->om Int->om Int->Hp->VK->Prop):Prop:=
 ∀(oq:oj (o3×Obj)) (s:o7) (σ:St) (H:Hp) (x:V) (v vl vu:o6) (lo hi:om Int) (sl:o3) (Q:VK),#[I]->ik x v->s.heap.IsSliceOf sl vl vu .none->Vt vl lo->Vt vu hi->r x lo hi H Q->
  ∃T id,GJ (.type T) "__getitem__"=pure (u_ (.builtin id))/\s.TypeIs v T/\UU #[X,X] X.A (Vm v (.ref sl)) (EP X oq σ Q) X.xe s
def SlR.or {r O:V->om Int->om Int->Hp->VK->Prop}(h:SlR X r)(h':SlR X O):SlR X (λx lo hi H Q=>r x lo hi H Q∨O x lo hi H Q):=by
 exists 2,x,v,U,Z,lo,hi,sl,Q,I,rx,hs,pl,pu,q;rcases q with q|q
 ·exact h oq s σ H x v U Z lo hi sl Q I rx hs pl pu q
 ·exact h' oq s σ H x v U Z lo hi sl Q I rx hs pl pu q
nonrec def tSl (r:V->om Int->om Int->Hp->VK->Prop)(te:TE)(tl th:TO):TE:=λσ H Q=>te σ H λx H1=>tl σ H1 λl H2=>th σ H2 λu H3=>r x l u H3 Q
def Xn {r:V->om Int->om Int->Hp->VK->Prop}(hr:SlR X r)(he:PE X e te)(hl:PO X lo tl)(hu:PO X hi th):PE X (.Subscript e (.Slice lo hi US p2) pos) (tSl r te tl th):=by
 exists 2,Q,I,h;refine G_ (thn (he oq s σ H _ I h) λv s1 zq=>?_);erw[zq,x,H1,I1,r1,q1];refine TY (thn (hl oq s1 σ H1 _ I1 q1) λU s2 ⟨l,H2,I2,pl,q2⟩=>thn (hu oq s2 σ H2 _ I2 q2) λZ O zq=>?_);erw[zq,u,H3,I3,pu,q3];rw[tI];refine uF ?_;have I4:Inv X oq σ H3 {O with heap:=O.heap.push {cls:= .type "slice",data:= .fields #[U,Z,.none]}}:=I3.kept (t':=O.toks) λb ob q=>ug _ q
 erw[hr oq {O with heap:=O.heap.push {cls:= .type "slice",data:= .fields #[U,Z,.none]}} σ H3 x v U Z l u #[0,O] Q I4 r1 (TJ ..) pl pu q3,T,id,hT,ht,hg]
 show UU #[X,X] X.A (GH e (.Slice lo hi US p2) v (.ref #[0,O])) (EP X oq σ Q) X.xe {O with heap:=O.heap.push {cls:= .type "slice",data:= .fields #[U,Z,.none]}}
 exact GG (ops:= [.ref #[0,O],v]) ht hT hg #[w]
nonrec def AK (xs:oj V)(lo hi:om Int):oj V:=(xs.drop (HT.sIx ↑xs 0 lo)).take (HT.sIx ↑xs ↑xs hi-HT.sIx ↑xs 0 lo)
def Z1 (xs:oj V)(lo hi:om Int):↑(AK xs lo hi)<=↑xs:=by
 unfold AK;rw[vN,vS];omega
inductive Abg (K:PySem.W.Frag)(x:V)(lo:Option Int)(hi:Option Int)(H:Hp)(Q:VK):Prop
 |mk (a:_)(xs:_)(_:x= .ref a)(_:SqT K H a xs)(_:¬(HT.sIx ↑xs 0 lo=0/\HT.sIx ↑xs ↑xs hi=↑xs))(_:∀p,H p=US->Q (.ref p) (upd H p (.tup (AK xs lo hi))))
def OA:SlR X (Abg X.K):=by
 exists 2,x,v,vl,vu,lo,hi,sl,Q,I,rx,hs,pl,pu,h;erw[h,a,xs,rfl,hx,hw,q];cases rx;erw[I.tuple hx,its,r,U,Z];have O:its.toArray.size=↑xs:=by rw[uw];exact r.length.symm
 exists "tuple",_,PyProof.Rows.slot_tuple_getitem.lookup,U.typeIs;refine HT.getItem_tuple_cut U hs pl pu (by rwa[O]) ?_ (by rwa[O])
 rw[O];exists .ref #[0,s],_,I.laid (t':=s.toks) (o:= .tup (AK xs lo hi)) (λb ob q=>ug _ q) (uj _) ?_,1,q _ (I.hok.fresh (uj _));exact⟨uQ (Z1 xs lo hi) Z,_,(r.drop (HT.sIx ↑xs 0 lo)).take (HT.sIx ↑xs ↑xs hi-HT.sIx ↑xs 0 lo),Gq _ _⟩
inductive S1 (K:PySem.W.Frag)(x:V)(y:V)(H:Hp)(Q:VK):Prop
 |mk (a:_)(b:_)(xs:_)(ys:_)(_:x= .ref a)(_:y= .ref b)(_:SqT K H a xs)(_:SqT K H b ys)(_:xs≠ [])(_:↑xs+↑ys<=UX)(_:(ys= []->Q (.ref a) H))(_:(ys≠ []->∀p,H p=US->Q (.ref p) (upd H p (.tup (xs++ys)))))
variable {xs:oj V}{us:oj o6}
def im.nil_iff (r:im xs us):us= []↔xs= []:=by
 cases r with
 |nil=>simp
 |cons _ _=>simp
def Mm:OpR X (Vl .Add) (S1 X.K):=by
 exists 2,x,y,v,u,Q,I,rx,ry,h;erw[h,a,b,xs,ys,rfl,rfl,ha,hb,hx,Z,q1,q2];cases rx;cases ry;erw[I.tuple ha,its,U,p1,_];erw[I.tuple hb,aa,O,p2,_];refine HT.cat_tup p1 p2 (λz=>hx (U.nil_iff.mp z)) (λz=>⟨.ref a,H,I,1,q1 (O.nil_iff.mp z)⟩) (λz=>?_) (by rwa[<-↑U,<-↑O])
 exists .ref #[0,s],_,I.laid (t':=s.toks) (o:= .tup (xs++ys)) (λb ob q=>ug _ q) (uj _) ?_,1,q2 (λw=>z (O.nil_iff.mpr w)) _ (I.hok.fresh (uj _));exact⟨by rwa[uA],_,U.append O,Gq _ _⟩
end
nonrec def ixN (n:Nat)(i:Int):om Nat:=if 0<=i then(if i<n then u_ i.toNat else US) else if-(n:Int)<=i then u_ (i+n).toNat else US
nonrec def atI {α:Type}(xs:oj α)(i:Int):om α:=(ixN ↑xs i).bind λj=>xs[j]?
variable {n j:Nat}{i:Int}
def pZ (h:ixN n i=u_ j):seqIndex? i n=u_ j/\j<n/\ -(n:Int)<=i/\i<n:=by
 unfold ixN at h;by_cases h0:0<=i
 ·rw[A6 h0] at h;by_cases h1:i<n
  ·rw[A6 h1] at h;have e:i.toNat=j:=uL h;exact⟨by rw[tP h0 h1,e],(),(),h1⟩
  ·rw[A4 h1] at h;cases h
 ·rw[A4 h0] at h;by_cases h1: -(n:Int)<=i
  ·rw[A6 h1] at h;have e:(i+n).toNat=j:=uL h;exact⟨by rw[T0 () h1,e],(),h1,()⟩
  ·rw[A4 h1] at h;cases h
def kW {α:Type}{xs:oj α}{v:α}(h:atI xs i=u_ v):∃j,seqIndex? i ↑xs=u_ j/\xs[j]? =u_ v/\j<↑xs/\ -(↑xs:Int)<=i/\i<↑xs:=by
 unfold atI at h;cases e:ixN ↑xs i with
 |none=>rw[e] at h;cases h
 |some j=>
  rw[e] at h;erw[pZ e,h1,h2,h3,h4];exact⟨j,h1,h,h2,h3,h4⟩
def qU {α:Type}{xs:oj α}{v:α}(h:xs[j]? =u_ v):atI xs (j:Int)=u_ v:=by
 have O:j<↑xs:=(Af.mp h).1;have e:ixN ↑xs (j:Int)=u_ j:=by
  unfold ixN;rw[A6 (),A6 ()];simp
 unfold atI;rw[e];exact h
def kP {α:Type}(xs:oj α)(v:α):atI (xs++ [v]) (-1)=u_ v:=by
 have O:↑(xs++ [v])=↑xs+1:=by simp
 have e:ixN ↑(xs++ [v]) (-1)=u_ ↑xs:=by
  unfold ixN;rw[O,A4 (),A6 ()]
  congr 1
  omega
 unfold atI;rw[e];show(xs++ [v])[↑xs]? =u_ v;simp
nonrec def NL (b:Expr):Prop:=∀o i,Gz b UT o i=GM [o,i] (Vm o i)
nonrec def IxR (X:Cx)(r:R2):Prop:=
 ∀(value slice:Expr) (oq:oj (o3×Obj)) (s:o7) (σ:St) (H:Hp) (x y:V) (v u:o6) (Q:VK),#[I]->ik x v->ik y u->r x y H Q->
  Gz slice UT v u=GM [v,u] (Vm v u)->UU #[X,X] X.A (GH value slice v u) (EP X oq σ Q) X.xe s
nonrec def MtR (X:Cx)(id:String)(r:V->oj V->Hp->VK->Prop):Prop:=
 ∀(oq:oj (o3×Obj)) (s:o7) (σ:St) (H:Hp) (x:V) (xs:oj V) (v:o6) (us:oj o6) (Q:VK),#[I]->ik x v->im xs us->r x xs H Q->
  UU #[X,X] X.A (call (.builtin id) (v::us)) (EP X oq σ Q) X.xe s
section
variable {X:Cx}{a b:Expr}{ta tb:TE}{pos:Pos}
def IxR.or {r O:R2}(h:IxR X r)(h':IxR X O):IxR X (λx y H Q=>r x y H Q∨O x y H Q):=by
 intro value slice oq s σ H x y v u Q I U Z q hs;rcases q with q|q
 ·exact h value slice oq s σ H x y v u Q I U Z q hs
 ·exact h' value slice oq s σ H x y v u Q I U Z q hs
def qI {r:R2}(O:IxR X r)(ha:PE X a ta)(U:PE X b tb)(Z:NL b):PE X (.Subscript a b pos) (tOp r ta tb):=by
 exists 2,Q,I,h;exact G_ (Aas ha U I h λv u s2 x y H2 I2 rx ry q=>O a b oq s2 σ H2 x y v u Q I2 rx ry q (Z _ _))
inductive SX (K:PySem.W.Frag)(x:V)(y:V)(H:Hp)(Q:VK):Prop
 |mk (p:_)(xs:_)(i:_)(v:_)(_:x= .ref p)(_:y= .int i)(_:SqL K H p xs)(_:atI xs i=u_ v)(_:Q v H)
inductive Kj (K:PySem.W.Frag)(x:V)(y:V)(H:Hp)(Q:VK):Prop
 |mk (p:_)(xs:_)(i:_)(v:_)(_:x= .ref p)(_:y= .int i)(_:SqT K H p xs)(_:atI xs i=u_ v)(_:Q v H)
inductive AaO (x:V)(y:V)(H:Hp)(Q:VK):Prop
 |mk (z:_)(i:_)(c:_)(_:x= .str z)(_:y= .int i)(_:↑z<=UX)(_:atI z.cps.toList i=u_ c)(_:Q (.str ⟨#[c]⟩) H)
def yi:IxR X (SX X.K):=by
 intro value slice oq s σ H x y v u Q I rx ry h Z;erw[h,p,xs,i,z,rfl,rfl,hq,he,q];cases rx;erw[ry,t,rfl];erw[I.list hq,its,r,pl,hz];erw[kW he,j,h1,h2,h3,h4,h5];erw[r.get h2,w,ew,O];have hl:=↑r;have hn:=zZ;have fin:EP X oq σ Q w s:=⟨z,H,I,O,q⟩;by_cases h0:0<=i
 ·have U:i.toNat=j:=by
   rw[tP h0 h5] at h1;exact uL h1
  exact item_listR pl.isList h0 () (by rw[U];simpa using ew) fin Z
 ·have U:(i+(its.toArray.size:Int)).toNat=j:=by
   rw[T0 () h4] at h1
   rw[uw,<-hl];exact uL h1
  exact rf (x:=w) pl.isList.typeIs slot_list_getitem.lookup
   (wpAny_getItem_list_neg (Q:=λr s'=>r=w/\EP X oq σ Q r s') pl.isList () (by rw[uw]<;>omega) () (by rw[U];simpa using ew) [1:fin]) Z
def qF:IxR X (Kj X.K):=by
 intro value slice oq s σ H x y v u Q I U Z h hs;erw[h,p,xs,i,z,rfl,rfl,hq,he,q];cases U;erw[Z,t,rfl];erw[I.tuple hq,its,r,pl,hz];erw[kW he,j,h1,h2,h3,h4,h5];erw[r.get h2,w,ew,O];have hl:=↑r;have hn:=zZ;have fin:EP X oq σ Q w s:=⟨z,H,I,O,q⟩;exact rf (x:=w) pl.typeIs slot_tuple_getitem.lookup
  (getItem_tuple (j:=j) (Q:=λr s'=>r=w/\EP X oq σ Q r s') pl () () (by rwa[uw,<-hl]) (by simpa using ew) [1:fin]) hs
def Aw:IxR X AaO:=by
 intro value slice oq s σ H x y v u Q I O U h Z;erw[h,z,i,c,rfl,rfl,hz,he,q];erw[O,t,rfl];erw[U,t',rfl];erw[kW he,j,h1,h2,h3,h4,h5];have hl:↑z.cps.toList=↑z:=by simp[VA]
 rw[hl] at h1 h4 h5;have hn:=zZ;exact GG (vJ s z t) slot_str_getitem.lookup (getItem_str (c:=c) (by
  have e1:decide (i< -(2^63:Int))=false:=uf ()
  have e2:decide (i≥2^63)=false:=uf ()
  rw[e1,e2,Bool.or_false]) (by rw[h1];simpa using h2) ⟨.str ⟨#[c]⟩,H,I.tok _,⟨0⟩,q⟩) Z
nonrec def rIx (K:o0):R2:=λx y H Q=>SX K x y H Q∨Kj K x y H Q∨AaO x y H Q
def Jl:IxR X (rIx X.K):=yi.or (qF.or Aw)
def Bl (its:oj o6)(n j:Nat)(u:o6):Gj (·.setIfInBounds j u) {cls:= .type "list",data:= .seq its.toArray n}={cls:= .type "list",data:= .seq (its.set j u).toArray n}:=by
 simp[Gj]
def Inv.lst {oq:oj (o3×Obj)}{σ:St}{H:Hp}{s:o7}{p:o3}{xs:oj V}(I:#[I])(h:H p=u_ (.lst xs)):
  ∃(its:oj o6) (n:Nat),im xs its/\s.heap.get? p=u_ {cls:= .type "list",data:= .seq its.toArray n}/\↑xs<=sizeLine:=by
 erw[I.hok p _ h,z,its,n,r,e];exact⟨its,n,r,e,z⟩
def Inv.lstUpd {oq:oj (o3×Obj)}{σ:St}{H:Hp}{s:o7}{p:o3}{xs ys:oj V}{its its':oj o6}{n O:Nat}{f:Obj->Obj}(I:#[I])(h:H p=u_ (.lst xs))
  (Z:s.heap.get? p=u_ {cls:= .type "list",data:= .seq its.toArray n}) (U:f {cls:= .type "list",data:= .seq its.toArray n}={cls:= .type "list",data:= .seq its'.toArray O}) (r:im ys its') (hz:↑ys<=UX) (t:Nat) (ht:0<t:=by ac_rfl):
  Inv X oq σ (upd H p (.lst ys)) {s with heap:=s.heap.update p f,toks:=t}:=by
 have e:(s.heap.update p f).get? p=u_ {cls:= .type "list",data:= .seq its'.toArray O}:=by
  rw[Tb f Z (by rw[U]<;>rfl),U]
 refine I.write (x:=p) (e:=p) (by rw[h];trivial) (.inl rfl) (λb u hb q=>(HN _ _ (Uo hb)).trans q) [_:e] ?_
 exact⟨hz,its',O,r,e⟩
inductive SU (o:V)(i:V)(v:V)(H:Hp)(Q:(Hp->Prop)):Prop
 |mk (p:_)(xs:_)(k:_)(j:_)(_:o= .ref p)(_:i= .int k)(_:H p=u_ (.lst xs))(_:ixN ↑xs k=u_ j)(_:Q (upd H p (.lst (xs.set j v))))
def EL:AaZ X SU:=by
 exists 2,o,i,v,ov,iv,u,Q,I,ro,ri,rv,h;erw[h,p,xs,k,j,rfl,rfl,hp,hj,q];cases ro;erw[ri,t,rfl];erw[I.lst hp,its,n,r,O,hz];erw[pZ hj,h1,h2,h3,h4];have U:=↑r;have hn:=zZ;have I':Inv X oq σ (upd H p (.lst (xs.set j v))) {s with heap:=s.heap.update p (Gj (·.setIfInBounds j u))}:=
  I.lstUpd hp O (Bl its n j u) (r.set rv j) (by rwa[List.length_set]) s.toks
 by_cases h0:0<=k
 ·have Z:k.toNat=j:=by
   rw[tP h0 h4] at h1;exact uL h1
  exact PySem.W.ki_setAt O h0 () (by rwa[uw,<-U]) (by rw[Z];exact[_:I':q])
 ·have Z:(k+(its.toArray.size:Int)).toNat=j:=by
   rw[T0 () h3] at h1
   rw[uw,<-U];exact uL h1
  exact PySem.W.ki_setBack O () (by rwa[uw,<-U]) () (by rw[Z];exact[_:I':q])
def ni (lo hi:om Int)(n:Nat):(Vz lo hi US n).1=((HT.sIx n 0 lo:Nat):Int)/\(Vz lo hi US n).2.1=((HT.sIx n n hi:Nat):Int)/\(Vz lo hi US n).2.2=1:=by
 exists ?_,?_,1
 ·cases lo with
  |none=>simp[Vz,HT.sIx]
  |some i=>
   simp![Vz,HT.sIx,FV,show(1:Int)>0 by decide,if_true]
   by_cases h:i<0
   ·simp![h,if_true]<;>omega
   ·simp![h,if_false]<;>omega
 ·cases hi with
  |none=>simp[Vz,HT.sIx]
  |some i=>
   simp![Vz,HT.sIx,FV,show(1:Int)>0 by decide,if_true]
   by_cases h:i<0
   ·simp![h,if_true]<;>omega
   ·simp![h,if_false]<;>omega
def k8 (its:oj o6)(lo hi:om Int):tO its.toArray lo hi US=((its.drop (HT.sIx ↑its 0 lo)).take (HT.sIx ↑its ↑its hi-HT.sIx ↑its 0 lo)).toArray:=by
 erw[ni lo hi its.toArray.size,h1,h2,h3];unfold tO;rw[h1,h2,h3];simp![sliceRange_one,pick_run,uw]<;>rfl
inductive Abh (K:PySem.W.Frag)(x:V)(lo:Option Int)(hi:Option Int)(H:Hp)(Q:VK):Prop
 |mk (a:_)(xs:_)(_:x= .ref a)(_:SqL K H a xs)(_:∀p,H p=US->Q (.ref p) (upd H p (.lst (AK xs lo hi))))
def Ca:SlR X (Abh X.K):=by
 exists 2,x,v,vl,vu,lo,hi,sl,Q,I,Z,hs,pl,pu,h;erw[h,a,xs,rfl,hx,q];cases Z;erw[I.list hx,its,r,U,hz];have O:=↑r;exists "list",_,slot_list_getitem.lookup,U.isList.typeIs;refine rJ U.isList hs pl pu .none (by simp) ?_ (by rw[uw]<;>omega)
 rw[k8,<-O];exists .ref #[0,s],_,I.laid (t':=s.toks) (o:= .lst (AK xs lo hi)) (λb ob q=>ug _ q) (uj _) ?_,1,q _ (I.hok.fresh (uj _));exact⟨uQ (Z1 xs lo hi) hz,_,(0),(r.drop (HT.sIx ↑xs 0 lo)).take (HT.sIx ↑xs ↑xs hi-HT.sIx ↑xs 0 lo),uJ _ rfl⟩
nonrec def Zb:V->Bool
 | .non=>v_
 | .bl _=>v_
 | .int _=>v_
 | .str _=>v_
 |_=>UT
nonrec def eqV:V->V->Bool
 | .non,.non=>v_
 | .bl a,.bl b=>a==b
 | .bl a,.int b=>(if a then 1 else 0)==b
 | .int a,.bl b=>a==(if b then 1 else 0)
 | .int a,.int b=>a==b
 | .str a,.str b=>a==b
 |_,_=>UT
variable {A:oh}{s:o7}{y:V}{u:o6}
def PH {x:V}{v:o6}(U:ik y u)(O:ik x v)(fy:Zb y=v_)(Z:Zb x=v_):Va A s u v (eqV y x):=by
 cases y with
 |non=>
  cases U;cases x with
  |non=>cases O;exact GZ _
  |bl b=>cases O;exact RA b
  |int b=>erw[O,t,rfl];exact TU b t
  |str b=>erw[O,t,rfl];exact Tq b t
  |_=>exact A8 (show UT=v_ from Z) uc
 |bl a=>
  cases U;cases x with
  |non=>cases O;exact RK a
  |bl b=>cases O;exact RC a b
  |int b=>erw[O,t,rfl];exact Rj a b t
  |str b=>erw[O,t,rfl];exact RG a b t
  |_=>exact A8 (show UT=v_ from Z) uc
 |int a=>
  erw[U,t',rfl];cases x with
  |non=>cases O;exact Re a t'
  |bl b=>cases O;exact Rk a t' b
  |int b=>erw[O,t,rfl];exact HV a t' b t
  |str b=>erw[O,t,rfl];exact Ux a t' b t
  |_=>exact A8 (show UT=v_ from Z) uc
 |str a=>
  erw[U,t',rfl];cases x with
  |non=>cases O;exact Fy a t'
  |bl b=>cases O;exact Ru a t' b
  |int b=>erw[O,t,rfl];exact Uy a t' b t
  |str b=>erw[O,t,rfl];exact tj a t' b t
  |_=>exact A8 (show UT=v_ from Z) uc
 |_=>exact A8 (show UT=v_ from fy) uc
nonrec def eqU (x:V)(u:o6):Bool:=match u with
 | .none=>eqV .non x
 | .bool b=>eqV (.bl b) x
 | .int i _=>eqV (.int i) x
 | .str z _=>eqV (.str z) x
 |_=>UT
def KR {x:V}(r:ik y u)(f:Zb y=v_):eqU x u=eqV y x:=by
 cases y with
 |non=>cases r;rfl
 |bl b=>cases r;rfl
 |int i=>erw[r,t,rfl];rfl
 |str z=>erw[r,t,rfl];rfl
 |_=>exact A8 (show UT=v_ from f) uc
def sJ {x:V}:∀{xs:oj V}{us:oj o6},im xs us->xs.all Zb=v_->us.any (eqU x)=xs.any λy=>eqV y x
 |_,_,.nil,_=>rfl
 |y::xs,u::us,.cons r t,f=>by
  rw[vq,uC] at f;rw[Uk,Uk,KR r f.1,sJ t f.2]
def kI {A:oh}{s:o7}{x:V}{v:o6}(U:ik x v)(Z:Zb x=v_):∀{xs:oj V}{us:oj o6},im xs us->xs.all Zb=v_->∀u∈us,Va A s u v (eqU x u)
 |_,_,.nil,_=>λu O=>by cases O
 |y::xs,u::us,.cons r t,f=>λu' O=>by
  rw[vq,uC] at f;rcases Aa.mp O with rfl|O
  ·rw[KR r f.1];exact PH r U f.1 Z
  ·exact kI U Z t f.2 u' O
nonrec def inV (x:V)(xs:oj V):Bool:=xs.any λy=>eqV y x
inductive rIn (K:PySem.W.Frag)(neg:Bool)(x:V)(y:V)(H:Hp)(Q:VK):Prop
 |mk (p:_)(xs:_)(_:y= .ref p)(_:(SqL K H p xs∨SqT K H p xs))(_:Zb x=v_)(_:xs.all Zb=v_)(_:Q (.bl (if neg then !inV x xs else inV x xs)) H)
def QT:OpR X (V4 .In) (rIn X.K UT):=by
 exists 2,x,y,v,u,Q,I,Z,ry,h;erw[h,p,xs,rfl,O,fx,fs,q];cases ry;rcases O with O|O
 ·erw[I.list O,its,r,pl,hz];refine TN (eqU x) pl.isList (λw U=>kI Z fx r fs w (by simpa using U)) ⟨.bl _,H,I,1,?_⟩
  rw[show its.toArray.any (eqU x)=its.any (eqU x) by simp,sJ r fs]
  exact q
 ·erw[I.tuple O,its,r,pl,hz];refine rg (eqU x) pl (λw U=>kI Z fx r fs w (by simpa using U)) ⟨.bl _,H,I,1,?_⟩
  rw[show its.toArray.any (eqU x)=its.any (eqU x) by simp,sJ r fs]
  exact q
def nR:OpR X (V4 .NotIn) (λx y H Q=>∃i j,x= .str i/\y= .str j/\Q (.bl (!(!(Gy j i 0 ↑j 1).isEmpty))) H):=by
 exists 2,x,y,v,u,Q,I,O,U,h;erw[h,i,j,rfl,rfl,q];erw[O,t,rfl];erw[U,t',rfl];exact notIn_str ⟨.bl _,H,I,1,q⟩
def qN:YN X (.builtin "len") (λxs H Q=>∃p ys,xs= [.ref p]/\(SqL X.K H p ys∨SqT X.K H p ys)/\Q (.int ↑ys) H):=by
 exists 2,xs,us,Q,I,r,h;erw[h,p,ys,rfl,U,q];erw[Xq r,u,rfl,rx];cases rx;have hn:=zZ;rcases U with U|U
 ·erw[I.list U,its,Z,pl,hz];have O:=↑Z;exact FS pl.isList (by simp![uw]<;>omega) ⟨.int ↑ys,H,I.tok _,⟨s.toks+1,by rw[uw,O]⟩,q⟩
 ·erw[I.tuple U,its,Z,pl,hz];have O:=↑Z;exact len_tuple pl (by simp![uw]<;>omega) ⟨.int ↑ys,H,I.tok _,⟨s.toks+1,by rw[uw,O]⟩,q⟩
def zx:YN X (.builtin "len") (λxs H Q=>∃z,xs= [.str z]/\↑z<=UX/\Q (.int ↑z) H):=by
 exists 2,xs,us,Q,I,r,h;erw[h,z,rfl,O,q];erw[Xq r,u,rfl,t,rfl];have hn:=zZ;exact len_str () ⟨.int ↑z,H,I.tok _,⟨0⟩,q⟩
def Qn:YN X (.type "tuple") (λxs H Q=>∃p ys,xs= [.ref p]/\((SqL X.K H p ys/\∀l,H l=US->Q (.ref l) (upd H l (.tup ys)))∨(SqT X.K H p ys/\Q (.ref p) H))):=by
 exists 2,xs,us,Q,I,r,h;erw[h,p,ys,rfl,h];erw[Xq r,u,rfl,rx];cases rx;rcases h with⟨O,q⟩|⟨O,q⟩
 ·erw[I.list O,its,U,pl,Z];have aa:=↑U;refine call_tuple_list pl.isList (λh' kp=>?_) (by simp![uw]<;>omega)
  have I1:Inv X oq σ H {s with heap:=h'}:=I.kept (t':=s.toks) kp
  have I2:Inv X oq σ (upd H h'.objs.size (.tup ys)) {s with heap:=h'.push {cls:= .type "tuple",data:= .seq its.toArray}}:=
   I1.laid (t':=s.toks) (λb o e=>ug _ e) (uj _) (show yt X.prog X.w _ _ _ (.tup ys) from⟨Z,its,U,Gq _ _⟩)
  exact⟨.ref h'.objs.size,_,I2,1,q _ (I1.hok.fresh (uj _))⟩
 ·erw[I.tuple O,its,U,pl,Z];exact call_tuple_same pl ⟨.ref p,H,I,1,q⟩
nonrec def tyV (K:o0)(T:String)(x:V)(H:Hp):Prop:=match x with
 | .str _=>T="str"
 | .int _=>T="int"
 | .ref p=>(T="list"/\∃xs,SqL K H p xs)∨(T="tuple"/\∃o,K.lookup p=u_ o/\o.cls= .type "tuple"/\o.dict=US)∨
   (T="dict"/\((∃kvs,H p=u_ (.dK kvs))∨∃kvs,H p=u_ (.dT kvs)))∨(T="set"/\∃S n,H p=u_ (.set S n))
 |_=>False
variable {oq:oj (o3×Obj)}{σ:St}{H:Hp}
def IW {T:String}{x:V}{v:o6}(I:#[I])(r:ik x v)(ty:tyV X.K T x H):
  s.TypeIs v T/\∀a,v= .ref a->∃ob,s.heap.get? a=u_ ob/\ob.dict=none:=by
 cases x with
 |str z=>
  erw[r,t,rfl];cases(show T="str" from ty)
  exact[vJ s z t:λ_ e=>nomatch e]
 |int i=>
  erw[r,t,rfl];cases(show T="int" from ty)
  exact[typeIs_int s i t:λ_ e=>nomatch e]
 |ref p=>
  cases r;rcases ty with⟨rfl,xs,Z⟩|⟨rfl,o,O,hc,hd⟩|⟨rfl,O⟩|⟨rfl,S,n,O⟩
  ·erw[I.list Z,its,_,pl,_];exists pl.isList.typeIs,λa e=>?_;cases e;erw[pl,o,n,e,c,hd,_];exact[o:e:hd]
  ·exists [o:I.kIn p o O:hc],λa e=>?_;cases e;exact[o:I.kIn _ o O:hd]
  ·have z:∃o,s.heap.get? p=u_ o/\o.ExactDict:=by
    rcases O with⟨kvs,O⟩|⟨kvs,O⟩
    ·erw[I.hok p _ O,_,_,_,_,o,_,_,e,ex,_];exact[o:e:ex]
    ·erw[I.hok p _ O,_,_,_,_,o,_,_,e,ex,_];exact[o:e:ex]
   erw[z,o,e,ex];exists [o:e:ex.1],λa U=>?_;cases U;exact[o:e:ex.2.1]
  ·erw[I.hok p _ O,o,_,_,_,e,ex,_];exists [o:e:ex.1],λa U=>?_;cases U;exact[o:e:ex.2.1]
 |_=>exact Vh ty
nonrec def Aa9 (K:o0)(T:String)(r:V->oj V->Hp->VK->Prop)(to:TE):TE:=λσ H Q=>to σ H λx H1=>tyV K T x H1/\r x [] H1 Q
nonrec def tBM (K:o0)(T:String)(r:V->oj V->Hp->VK->Prop)(to:TE)(t:TA):TE:=λσ H Q=>to σ H λx H1=>tyV K T x H1/\t σ H1 λxs H2=>r x xs H2 Q
variable {o e:Expr}{es:oj Expr}{to:TE}{t:TA}{name:Str}{apos cpos:Pos}{T id:String}{r:V->oj V->Hp->VK->Prop}
def Kn (pa:tY T)(slot:Slot T name id)(Z:typeOf (.builtin id)=pure (.type "method_descriptor"))(hm:MtR X id r)(ho:PE X o to)
  (O:gS o name X.env (eval o X.env)=eval o X.env) (U:(apos.endLine==cpos.line)=v_):PE X (.Call (.Attribute o name apos) [] [] cpos) (Aa9 X.K T r to):=by
 exists 2,Q,I,h;refine wpAny_Call_method0_late O U (thn (ho oq s σ H _ I h) λv s1 zq=>?_);erw[zq,x,H1,I1,r1,ty,q1];erw[IW I1 r1 ty,h1,h2];exact⟨T,id,pa,slot,Z,h1,h2,U7 rfl (PySem.evalArgs_none (hm oq s1 σ H1 x [] v [] Q I1 r1 .nil q1))⟩
def jY (pa:tY T)(slot:Slot T name id)(ac:typeOf (.builtin id)=pure (.type "method_descriptor"))(hm:MtR X id r)(ho:PE X o to)(ha:PA X (e::es) t)
  (U:gS o name X.env (eval o X.env)=eval o X.env:=by rfl)
  (aa:((V6 cpos (UY (e::es) X.env)).all (λx=> !x.1)&&(Gf cpos (Gb [] X.env)).all (λx=>x.1.isSome)
   &&decide (↑(e::es)+↑([]:oj gW)+(if([]:oj gW).isEmpty then 0 else 1)<30))=true:=by rfl)
  (Z:(apos.endLine==cpos.line)=true:=by rfl) (hs:UY (e::es) X.env=(UT,eval e X.env)::UY es X.env:=by rfl) (O:(V6 cpos (UY es X.env)).any (·.1)=false:=by rfl):
  PE X (.Call (.Attribute o name apos) (e::es) [] cpos) (tBM X.K T r to t):=by
 exists 2,Q,I,h;refine wpAny_Call_method_late U aa Z rfl (thn (ho oq s σ H _ I h) λv s1 zq=>?_);erw[zq,x,H1,I1,r1,ty,q1];erw[IW I1 r1 ty,h1,h2];exists T,id,pa,slot,ac,h1,h2;have hA:=ha cpos oq s1 σ H1 _ I1 q1;rw[hs] at hA⊢;refine U7 (by show(UT||(V6 cpos (UY es X.env)).any (·.1))=UT;rw[O]<;>rfl) (Up ?_)
 exact thn hA λus s2 ⟨vs,H2,I2,r2,q2⟩=>hm oq s2 σ H2 x vs v us Q I2 r1 r2 q2
end
nonrec def MtM (X:Cx)(id:String)(r:V->oj V->Hp->VK->Prop):Prop:=
 ∀(oq:oj (o3×Obj)) (s:o7) (σ:St) (H:Hp) (x:V) (xs:oj V) (v:o6) (us:oj o6) (Q:VK),#[I]->ik x v->im xs us->r x xs H Q->
  UU #[X,X] X.A (call (.builtin id) (v::us)) (EP X oq σ Q) X.xe s
def im.one:∀{x:V}{us:oj o6},im [x] us->∃u,us= [u]/\ik x u
 |_,_,.cons r .nil=>[0:r]
def im.zero:∀{us:oj o6},im [] us->us= []
 |_,.nil=>rfl
variable {xs:oj V}{us:oj o6}
def im.dropLast (h:im xs us):im xs.dropLast us.dropLast:=by
 induction h with
 |nil=>exact .nil
 |cons r t O=>
  cases t with
  |nil=>exact .nil
  |cons q t'=>exact .cons r O
def Bt {α:Type}(l:oj α):l.eraseIdx (↑l-1)=l.dropLast:=by
 induction l with
 |nil=>rfl
 |cons a r O=>
  cases r with
  |nil=>rfl
  |cons b r=>
   have e:↑(a::b::r)-1=(↑(b::r)-1)+1:=by
    have h1:↑(a::b::r)=↑r+2:=rfl;have h2:↑(b::r)=↑r+1:=rfl;omega
   rw[e,List.eraseIdx_cons_succ,O]
   all_goals rfl
section
variable {X:Cx}{oq:oj (o3×Obj)}{σ:St}{H:Hp}{s:o7}{l b:o3}{xs ys zs:oj V}
def Inv.lset {its its':oj o6}{n:Nat}{f:Array o6->Array o6}{t':Nat}(I:#[I])(O:H l=u_ (.lst xs))
  (e:s.heap.get? l=u_ {cls:= .type "list",data:= .seq its.toArray n}) (U:f its.toArray=its'.toArray) (Z:im ys its') (hz:↑ys<=UX) (ht:0<t':=by ac_rfl):
  Inv X oq σ (upd H l (.lst ys)) {s with heap:=s.heap.update l (Gj f),toks:=t'}:=by
 have q:=PySem.IsL.update e f;rw[U] at q;refine I.write (x:=l) (e:=l) (by rw[O];exact trivial) (.inl rfl) (λb' u hb hu=>(HN s.heap (Gj f) (Uo hb)).trans hu) [_:q] ?_
 exact⟨hz,its',_,Z,q⟩
variable {its:oj o6}{t':Nat}
def Inv.lnew (I:#[I])(O:im ys its)(U:↑ys<=UX)(Z:0<t':=by ac_rfl):
  Inv X oq σ (upd H #[0,s] (.lst ys)) {s with heap:=s.heap.push {cls:= .type "list",data:= .seq its.toArray},toks:=t'}:=
 I.laid (λ_ _ q=>ug _ q) (uj _) ⟨U,its,(0),O,uJ _ rfl⟩
def Inv.fresh (I:#[I]):H #[0,s]=none:=I.hok.fresh (uj _)
def Inv.lstM (I:#[I])(O:H l=u_ (.lst xs)):↑xs<=UX/\∃(its:oj o6) (n:Nat),im xs its/\↑xs=↑its/\s.heap.get? l=u_ {cls:= .type "list",data:= .seq its.toArray n}:=by
 erw[I.hok l _ O,z,its,n,r,e];exact⟨z,its,n,r,↑r,e⟩
def Ip (h:n<=UX):tR n=false:=by
 unfold tR;exact uf ()
end
section
variable {X:Cx}
inductive Ck (x:V)(vs:List V)(H:Hp)(Q:VK):Prop
 |mk (l:_)(xs:_)(y:_)(_:x= .ref l)(_:vs= [y])(_:H l=u_ (.lst xs))(_:↑xs<UX)(_:Q .non (upd H l (.lst (xs++ [y]))))
def jc:MtM X "list.append" Ck:=by
 exists 2,x,vs,v,us,Q,I,U,rv,h;erw[h,l,xs,y,rfl,rfl,O,Z,q];cases U;erw[rv.one,u,rfl,ru];erw[I.lstM O,z,its,n,r,hl,e];refine vK F.slot_list_append [_:e:1] F.entry_list_append (F.args_list_append_2 _ _) (PySem.list_append l its.toArray n u (by rw[uw];omega)) [e:?_]
 exists .non,_,I.lset (its':=its++ [u]) O e (by simp) (r.append (.cons ru .nil)) ?_,1,q
 rw[uA,vm];omega
inductive L8 (x:V)(vs:List V)(H:Hp)(Q:VK):Prop
 |mk (l:_)(b:_)(xs:_)(zs:_)(_:x= .ref l)(_:vs= [.ref b])(_:H l=u_ (.lst xs))(_:H b=u_ (.lst zs))(_:↑xs+↑zs<=UX)(_:Q .non (upd H l (.lst (xs++zs))))
def nY:MtM X "list.extend" L8:=by
 exists 2,x,vs,v,us,Q,I,rx,rv,h;erw[h,l,b,xs,zs,rfl,rfl,Z,hB,hz,q];cases rx;erw[rv.one,u,rfl,ru];cases ru;erw[I.lstM Z,z,its,n,r,hl,e];erw[I.lstM hB,z2,O,n2,r2,aa,e2];have hsz:its.toArray.size+O.toArray.size<=sizeLine:=by rw[uw,uw];omega
 have U:¬(!its.toArray.isEmpty&&tR (its.toArray.size+O.toArray.size))=true:=by
  rw[Ip hsz,HJ];exact uc
 refine vK F.slot_list_extend [_:e:1] F.entry_list_extend (F.args_list_extend_2 _ _)
  (RF l its.toArray n b O.toArray n2 U (by rw[uw];omega) ()) [e:e2:?_]
 exists .non,_,I.lset (its':=its++O) Z e (by simp) (r.append r2) ?_,1,q
 rw[uA];omega
inductive Abi (x:V)(vs:List V)(H:Hp)(Q:VK):Prop
 |mk (l:_)(xs:_)(y:_)(_:x= .ref l)(_:vs= [])(_:H l=u_ (.lst xs))(_:xs[↑xs-1]? =u_ y)(_:Q y (upd H l (.lst xs.dropLast)))
def Kw:MtM X "list.pop" Abi:=by
 exists 2,x,vs,v,us,Q,I,rx,rv,h;erw[h,l,xs,y,rfl,rfl,Z,hy,q];cases rx;have O:=rv.zero;subst O;erw[I.lstM Z,z,its,n,r,hl,e];erw[r.get hy,u,hu,ru];have U:its.toArray[its.toArray.size-1]? =u_ u:=by
  show its.toArray[↑its-1]? =u_ u;rwa[<-Fz,<-hl]
 refine vK F.slot_list_pop [_:e:1] F.entry_list_pop (F.args_list_pop_1 _) (RI l its.toArray n u U (by rw[uw];omega)) [e:?_]
 exists y,_,I.lset (its':=its.dropLast) Z e ?_ r.dropLast ?_,ru,q
 ·show its.toArray.eraseIdxIfInBounds (its.toArray.size-1)=its.dropLast.toArray;rw[uw,List.eraseIdxIfInBounds_toArray,Bt]
 ·rw[List.length_dropLast];omega
inductive Abo (x:V)(y:V)(H:Hp)(Q:VK):Prop
 |mk (l:_)(b:_)(xs:_)(zs:_)(_:x= .ref l)(_:y= .ref b)(_:H l=u_ (.lst xs))(_:H b=u_ (.lst zs))(_:↑xs+↑zs<=UX)(_:∀p,H p=US->Q (.ref p) (upd H p (.lst (xs++zs))))
def ww:OpR X (Vl .Add) Abo:=by
 exists 2,x,y,v,u,Q,I,U,Z,h;erw[h,l,b,xs,zs,rfl,rfl,hH,hB,hz,q];cases U;cases Z;erw[I.lstM hH,z,its,n,r,hl,e];erw[I.lstM hB,z2,O,n2,r2,aa,e2];refine PySem.P.add_list e e2 ?_ (by rw[uw,uw];omega)
 have ea:its.toArray++O.toArray=(its++O).toArray:=by simp
 rw[ea];exact⟨.ref _,_,I.lnew (t':=s.toks) (r.append r2) (by rw[uA];omega),1,q _ I.fresh⟩
end
section
variable {prog:o9}{w:og}{A:oh}{E:o6->o7->Prop}{s:o7}
set_option maxRecDepth 100000 in
end
section
variable {κ:Type}[DecidableEq κ]
nonrec def iK (kvs:oj (κ×V))(k:κ):om V:=(kvs.find? λkv=>decide (kv.1=k)).map (·.2)
nonrec def lD (kvs:oj (κ×V))(k:κ)(v:V):oj (κ×V):=
 if(kvs.any λkv=>decide (kv.1=k))=v_ then kvs.map (λkv=>if kv.1=k then(kv.1,v) else kv) else kvs++ [(k,v)]
nonrec def j8 (kvs:oj (κ×V))(k:κ):oj (κ×V):=kvs.filter λkv=>decide (kv.1≠k)
def W1 {k:κ}:iK ([]:oj (κ×V)) k=none:=rfl
def QL {p:κ×V}{r:oj (κ×V)}{k:κ}(e:p.1=k):iK (p::r) k=u_ p.2:=by simp[iK,vd,e]
def QD {p:κ×V}{r:oj (κ×V)}{k:κ}(e:¬p.1=k):iK (p::r) k=iK r k:=by simp[iK,vd,e]
def JS (k:κ):∀kvs:oj (κ×V),(kvs.any λkv=>decide (kv.1=k))=(iK kvs k).isSome
 | []=>rfl
 |p::r=>by
  rw[Uk];by_cases e:p.1=k
  ·simp![QL e,ud e,Bool.true_or,Option.isSome_some]
  ·rw[QD e,uf e,tS];exact JS k r
def sM (k j:κ)(y:V):∀kvs:oj (κ×V),iK (kvs.map λkv=>if kv.1=k then(kv.1,y) else kv) j=(iK kvs j).map λx=>if j=k then y else x
 | []=>rfl
 |p::r=>by
  have O:=sM k j y r;rw[uB];by_cases h:p.1=k
  ·rw[A6 h];by_cases e:p.1=j
   ·rw[QL (p:=(p.1,y)) e,QL e,GU,A6 (e.symm.trans h)]
   ·rw[QD (p:=(p.1,y)) e,QD e,O]
  ·rw[A4 h];by_cases e:p.1=j
   ·rw[QL (p:=p) e,QL e,GU,A4 (λz=>h (e.trans z))]
   ·rw[QD (p:=p) e,QD e,O]
def na (k j:κ)(y:V):∀kvs:oj (κ×V),iK kvs k=US->iK (kvs++ [(k,y)]) j=if j=k then u_ y else iK kvs j
 | [],_=>by
  by_cases e:k=j
  ·rw[A6 e.symm];exact QL (p:=(k,y)) e
  ·rw[A4 (λz=>e z.symm)];exact QD (p:=(k,y)) e
 |p::r,hn=>by
  rw[Ur];have O:¬p.1=k:=λz=>by rw[QL z] at hn;cases hn
  rw[QD O] at hn;have U:=na k j y r hn;by_cases e:p.1=j
  ·rw[QL e,QL e,A4 (λz=>O (e.trans z))]
  ·rw[QD e,QD e,U]
def Xa (kvs:oj (κ×V))(k j:κ)(y:V):iK (lD kvs k y) j=if j=k then u_ y else iK kvs j:=by
 unfold lD;by_cases a:(kvs.any λkv=>decide (kv.1=k))=v_
 ·rw[A6 a,sM];rw[JS] at a;by_cases e:j=k
  ·erw[Option.isSome_iff_exists.mp a,x,O];rw[A6 e,e,O,GU,A6 rfl]
  ·rw[A4 e];cases iK kvs j with
   |none=>rfl
   |some x=>rw[GU,A4 e]
 ·rw[A4 a];refine na k j y kvs ?_;rw[JS] at a;cases q:iK kvs k with
  |none=>rfl
  |some x=>rw[q] at a;exact(a rfl).elim
def yj (kvs:oj (κ×V))(k:κ)(v:V):↑(lD kvs k v)<=↑kvs+1:=by
 unfold lD;split
 ·rw[ue];omega
 ·rw[uA,um,UD];omega
variable {kvs:oj (κ×V)}
def Ke {k:κ}(v:V)(h:iK kvs k=US):lD kvs k v=kvs++ [(k,v)]:=by
 unfold lD;rw[JS,h];exact A4 ()
def mX.isSome_eq {o:om V}{u:om o6}(r:mX o u):o.isSome=u.isSome:=by
 cases o with
 |none=>cases u with
  |none=>rfl
  |some _=>exact(show False from r).elim
 |some _=>cases u with
  |none=>exact(show False from r).elim
  |some _=>rfl
def mX.getD {o:om V}{u:om o6}{d:V}{d':o6}(r:mX o u)(rd:ik d d'):ik (o.getD d) (u.getD d'):=by
 cases o with
 |none=>cases u with
  |none=>exact rd
  |some _=>exact(show False from r).elim
 |some _=>cases u with
  |none=>exact(show False from r).elim
  |some _=>exact r
variable {vs:oj (κ×o6)}
def KV.val (r:KV kvs vs)(k:κ):mX (iK kvs k) (VJ vs k):=by
 unfold KV at r
 induction r with
 |nil=>exact Vi
 | @cons p q ps qs h t ih=>
  erw[h,h1,h2];by_cases e:p.1=k
  ·have O:q.1=k:=h1.symm.trans e;have b:VJ (q::qs) k=u_ q.2:=by simp[VJ,vd,O]
   rwa[QL e,b]
  ·have O:¬q.1=k:=λz=>e (h1.trans z);have b:VJ (q::qs) k=VJ qs k:=by simp[VJ,vd,O]
   rw[QD e,b];exact ih
def KV.any (r:KV kvs vs)(k:κ):(kvs.any λkv=>decide (kv.1=k))=vs.any λkv=>decide (kv.1=k):=by
 unfold KV at r
 induction r with
 |nil=>rfl
 |cons h t O=>rw[Uk,Uk,O,h.1]
variable {y:V}{u:o6}
def KV.repl (r:KV kvs vs)(k:κ)(O:ik y u):
  KV (kvs.map λkv=>if kv.1=k then(kv.1,y) else kv) (vs.map λkv=>if kv.1=k then(kv.1,u) else kv):=by
 unfold KV at r⊢
 induction r with
 |nil=>exact .nil
 | @cons p q ps qs h t ih=>
  rw[uB,uB];refine .cons ?_ ih;erw[h,h1,h2];by_cases e:p.1=k
  ·rw[A6 e,A6 (h1.symm.trans e)];exact[h1:O]
  ·rw[A4 e,A4 (λz=>e (h1.trans z))];exact[h1:h2]
def KV.put (r:KV kvs vs)(k:κ)(O:ik y u):KV (lD kvs k y) (VL vs k u):=by
 unfold lD VL;rw[r.any k];by_cases e:(vs.any λkv=>decide (kv.1=k))=v_
 ·rw[A6 e,A6 e];exact r.repl k O
 ·rw[A4 e,A4 e];exact Paired.snoc r [1:O]
def KV.drop (r:KV kvs vs)(k:κ):KV (j8 kvs k) (without vs k):=by
 unfold KV at r⊢;unfold j8 without
 induction r with
 |nil=>exact .nil
 | @cons p q ps qs h t ih=>
  erw[h,h1,h2];rw[vt,vt];by_cases e:p.1=k
  ·have a:¬decide (p.1≠k)=true:=by simp[e]
   have b:¬decide (q.1≠k)=true:=by simp[h1.symm.trans e]
   rw[A4 a,A4 b];exact ih
  ·have O:¬q.1=k:=λz=>e (h1.trans z);have a:decide (p.1≠k)=true:=by simp[e]
   have b:decide (q.1≠k)=true:=by simp[O]
   rw[A6 a,A6 b];exact .cons [h1:h2] ih
def KV.keys (r:KV kvs vs):kvs.map (·.1)=vs.map (·.1):=by
 unfold KV at r
 induction r with
 |nil=>rfl
 |cons h t O=>rw[uB,uB,O,h.1]
def KV.length (r:KV kvs vs):↑kvs=↑vs:=Paired.length r
def AF (kvs:oj (κ×V))(k:κ):↑(j8 kvs k)<=↑kvs:=tJ _ _
end
variable {w:og}{u:o6}
def ou {P:o9}{k:Key}(r:ik (kV k) u):(Qk P w).is k u=true:=by
 cases k with
 |inl i=>obtain⟨t,e⟩:=(show∃t,u=VP i t from r);subst e;exact pS P w i t
 |inr x=>obtain⟨t,e⟩:=(show∃t,u=Vj x t from r);subst e;exact ZT P w x t
def ow {P:o9}{w:og}:∀{ks:oj Key}{us:oj o6},im (ks.map kV) us->ItemsAre (Qk P w) ks us
 | [],_,r=>by rw[U3] at r;cases r;exact .nil
 |k::ks,_,r=>by
  rw[uB] at r;cases r with
  |cons h t=>exact .cons (ou h) (ow t)
noncomputable abbrev KT (H:Hp):oj (oj Key×V)->oj (oj Key×o3×o6)->Prop:=Paired λp q=>p.1=q.1/\H q.2.1=u_ (.tup (p.1.map kV))/\ik p.2 q.2.2
variable {H:Hp}
def KT.val {kvs:oj (oj Key×V)}{xs:oj (oj Key×o3×o6)}(r:KT H kvs xs)(k:oj Key):mX (iK kvs k) ((VB xs k).map (·.2)):=by
 induction r with
 |nil=>exact Vi
 | @cons p q ps qs h t ih=>
  erw[h,h1,_,h2];by_cases e:p.1=k
  ·have O:q.1=k:=h1.symm.trans e;have b:VB (q::qs) k=u_ q.2:=by simp[VB,vd,O]
   rwa[QL e,b]
  ·have O:¬q.1=k:=λz=>e (h1.trans z);have b:VB (q::qs) k=VB qs k:=by simp[VB,vd,O]
   rw[QD e,b];exact ih
variable {y:V}
def KT.repl {kvs:oj (oj Key×V)}{xs:oj (oj Key×o3×o6)}(r:KT H kvs xs)(k:oj Key)(O:ik y u):
  KT H (kvs.map λkv=>if kv.1=k then(kv.1,y) else kv) (xs.map (putAt k u)):=by
 induction r with
 |nil=>exact .nil
 | @cons p q ps qs h t ih=>
  rw[uB,uB];refine .cons ?_ ih;erw[h,h1,h2,h3];unfold putAt;by_cases e:p.1=k
  ·rw[A6 e,A6 (h1.symm.trans e)];exact[h1:h2:O]
  ·rw[A4 e,A4 (λz=>e (h1.trans z))];exact[h1:h2:h3]
variable {b:o3}
def KT.put {kvs:oj (oj Key×V)}{xs:oj (oj Key×o3×o6)}(r:KT H kvs xs)(k:oj Key)(U:H b=u_ (.tup (k.map kV)))(O:ik y u):
  KT H (lD kvs k y) (storedH xs k b u):=by
 have e:(kvs.any λkv=>decide (kv.1=k))=(VB xs k).isSome:=by
  rw[JS,(r.val k).isSome_eq,Ho]
 unfold lD storedH;rw[e];by_cases q:(VB xs k).isSome=v_
 ·rw[A6 q,A6 q];exact r.repl k O
 ·rw[A4 q,A4 q];exact Paired.snoc r [1:U:O]
variable {H':Hp}
def KT.keeps {kvs:oj (oj Key×V)}{xs:oj (oj Key×o3×o6)}(r:KT H kvs xs)(O:∀b ys,H b=u_ (.tup ys)->H' b=u_ (.tup ys)):KT H' kvs xs:=
 Paired.mapP r λ_ _ z=>[z.1:O _ _ z.2.1:z.2.2]
section
variable {P:o9}{w:og}{H:Hp}{h:o8}{a:o3}
def OJ {u:HO}(ok:HOk P w H h)(e:Rd H a u):yt P w H h a u:=e.ok ok
def oO {kvs:oj (Key×V)}(ok:HOk P w H h)(e:Rd H a (.dK kvs)):↑kvs<=UX/\(a==Ve)=UT/\∃vs,KV kvs vs/\h.DictOf (Qk P w) a vs:=
 show yt P w H h a (.dK kvs) from OJ ok e
def IM {kvs:oj (Key×V)}(ok:HOk P w H h)(e:H a=u_ (.dK kvs)):↑kvs<=UX/\(a==Ve)=UT/\∃vs,KV kvs vs/\h.DictOf (Qk P w) a vs:=oO ok (.inl e)
def Wp {ks:oj Key}(ok:HOk P w H h)(e:H a=u_ (.tup (ks.map kV))):(gZ (Qk P w)).is h ks a:=by
 obtain⟨_,its,r,o,h1,h2,n,h3⟩:=(show yt P w H h a (.tup (ks.map kV)) from ok a _ e)
 exact⟨o,its.toArray,n,h1,h2,h3,by simpa using ow r⟩
def sr {kvs:oj (oj Key×V)}(ok:HOk P w H h)(e:Rd H a (.dT kvs)):↑kvs<=UX/\(a==Ve)=UT/\
  ∃xs,KT H kvs xs/\h.DictOfH (gZ (Qk P w)) a xs:=by
 obtain⟨z,y,xs,r,o,es,ep,h1,h2,h3,h4,h5⟩:=(show yt P w H h a (.dT kvs) from OJ ok e)
 exists z,y,xs,r,o,es,ep,h1,h2,h3,h4,λx O=>?_,h5;have all:∀{l:oj (oj Key×V)}{m:oj (oj Key×o3×o6)},KT H l m->∀x∈m,(gZ (Qk P w)).is h x.1 x.2.1:=by
  intro l m q
  induction q with
  |nil=>intro x O;exact nomatch O
  | @cons p q ps qs hq t ih=>
   intro x O;rcases Aa.mp O with e|O
   ·subst e;exact Wp ok (by rw[<-hq.1];exact hq.2.1)
   ·exact ih x O
 exact all r x O
def Aao {kvs:oj (oj Key×V)}(ok:HOk P w H h)(e:H a=u_ (.dT kvs)):↑kvs<=UX/\(a==Ve)=UT/\
  ∃xs,KT H kvs xs/\h.DictOfH (gZ (Qk P w)) a xs:=sr ok (.inl e)
end
nonrec def mJ (H:Hp)(a:o3)(y:V)(r:om V):Prop:=
 (∃kvs k,Rd H a (.dK kvs)/\y=kV k/\r=iK kvs k)∨∃kvs k b,Rd H a (.dT kvs)/\y= .ref b/\H b=u_ (.tup (k.map kV))/\r=iK kvs k
nonrec def Eg (H:Hp)(a:o3)(y v:V)(H':Hp):Prop:=
 (∃kvs k,H a=u_ (.dK kvs)/\y=kV k/\↑kvs<UX/\H'=upd H a (.dK (lD kvs k v)))∨
 ∃kvs k b,H a=u_ (.dT kvs)/\y= .ref b/\H b=u_ (.tup (k.map kV))/\↑kvs<UX/\H'=upd H a (.dT (lD kvs k v))
def mJ.k {H:Hp}{a:o3}{kvs:oj (Key×V)}{k:Key}(e:H a=u_ (.dK kvs)):mJ H a (kV k) (iK kvs k):= .inl ⟨kvs,k,.inl e,1,1⟩
def Eg.k {H:Hp}{a:o3}{kvs:oj (Key×V)}{k:Key}{v:V}(e:H a=u_ (.dK kvs))(O:↑kvs<UX):Eg H a (kV k) v (upd H a (.dK (lD kvs k v))):= .inl ⟨kvs,k,e,1,O,1⟩
section
variable {X:Cx}{oq:oj (o3×Obj)}{σ:St}{H:Hp}{s:o7}{a:o3}{y v:V}{u r:o6}{o:om V}{A:oh}{E:o6->o7->Prop}
def Inv.big (I:#[I]):Ve<#[0,s]:=by
 have h:Vc<#[0,s]:=(I.mod.glob.keeps I.bk).lt;exact hZ () h
def D2 {Q:o6->o7->Prop}(hu:A.units+1<V3)(I:#[I])(g:mJ H a y (u_ v))(ry:ik y u)(h:∀U s',Inv X oq σ H s'->ik v U->Q U s'):
  UU #[X,X] A (Vm (.ref a) u) Q E s:=by
 rcases g with⟨kvs,k,e,Z,l⟩|⟨kvs,k,b,e,Z,eb,l⟩
 ·subst Z;erw[oO I.hok e,z,hd,vs,rel,dd];obtain⟨U,hw,O⟩:=mX.some_of (v:=v) (o:=VJ vs k) (by rw[l];exact rel.val k)
  exact Rg (ou ry) dd.mapOf hw (h U _ (I.tok _) O)
 ·subst Z;cases(show u=UZ b from ry)
  erw[sr I.hok e,z,hd,xs,rel,dd];obtain⟨U,hw,O⟩:=mX.some_of (v:=v) (o:=(VB xs k).map (·.2)) (by rw[l];exact rel.val k)
  erw[Option.map_eq_some_iff.mp hw,p,hp,aa];refine wpAny_getItem_heap (Ub hu) (Wp I.hok eb) dd hp ?_;rw[aa];exact h U _ (I.tok _) O
def Abw {Q:o6->o7->Prop}(Z:A.units+1<V3)(I:#[I])(g:mJ H a y o)(U:ik y u)(h:∀s',Inv X oq σ H s'->Q (.bool o.isSome) s'):
  UU #[X,X] A (V4 .In u (.ref a)) Q E s:=by
 rcases g with⟨kvs,k,e,O,l⟩|⟨kvs,k,b,e,O,eb,l⟩
 ·subst O;erw[oO I.hok e,z,hd,vs,rel,dd];refine rE (ou U) hd dd.mapOf ?_;rw[<-(rel.val k).isSome_eq,<-l];exact h _ (I.tok _)
 ·subst O;cases(show u=UZ b from U)
  erw[sr I.hok e,z,hd,xs,rel,dd];refine wpAny_in_heap (Ub Z) (Wp I.hok eb) hd dd ?_;have q:=(rel.val k).isSome_eq;rw[Ho] at q;rw[<-q,<-l];exact h _ (I.tok _)
def Nz {Q:o6->o7->Prop}(Z:A.units+1<V3)(I:#[I])(g:mJ H a y o)(U:ik y u)(h:∀s',Inv X oq σ H s'->Q (.bool (!o.isSome)) s'):
  UU #[X,X] A (V4 .NotIn u (.ref a)) Q E s:=by
 rcases g with⟨kvs,k,e,O,l⟩|⟨kvs,k,b,e,O,eb,l⟩
 ·subst O;erw[oO I.hok e,z,hd,vs,rel,dd];refine Ts (ou U) hd dd.mapOf ?_;rw[<-(rel.val k).isSome_eq,<-l];exact h _ (I.tok _)
 ·subst O;cases(show u=UZ b from U)
  erw[sr I.hok e,z,hd,xs,rel,dd];refine wpAny_notIn_heap (Ub Z) (Wp I.hok eb) hd dd ?_;have q:=(rel.val k).isSome_eq;rw[Ho] at q;rw[<-q,<-l];exact h _ (I.tok _)
variable {h':o8}{t':Nat}
def kg {ob:HO}(I:#[I])(mu:Mut (H a))(O:Gn a s.heap h')(U:∃q,h'.get? a=u_ q)(new:yt X.prog X.w (upd H a ob) h' a ob)(ht:0<t':=by ac_rfl):
  Inv X oq σ (upd H a ob) {s with heap:=h',toks:=t'}:=
 I.write (x:=a) (e:=a) mu (.inl rfl) (λb q Z z=>(O.2 b Z).trans z) U new
def oP {P:o9}{kvs:oj (Key×V)}{vs:oj (Key×o6)}(z:↑kvs<=UX)(hd:(a==Ve)=UT)(rel:KV kvs vs)(dd:h'.DictOf (Qk P w) a vs):
  yt P w H' h' a (.dK kvs):=⟨z,hd,vs,rel,dd⟩
def D0 {Q:Unit->o7->Prop}(hu:A.units+1<V3)(I:#[I])(g:Eg H a y v H')(ry:ik y u)(rv:ik v r)(h:∀s',Inv X oq σ H' s'->Q gV s'):
  UU #[X,X] A (Ta (.ref a) u r) Q E s:=by
 rcases g with⟨kvs,k,e,Z,l,eH⟩|⟨kvs,k,b,e,Z,eb,l,eH⟩
 ·subst Z eH;erw[IM I.hok e,z,hd,vs,rel,dd];have hz:↑vs<=sizeLine:=by rwa[<-↑rel]
  have hl:↑(lD kvs k v)<=sizeLine:=by have:=yj kvs k v;omega
  refine wpAny_setItem_pairs (hsz:=hz) (ou ry) dd λh' O hs=>h _ ?_;have he:∃q,h'.get? a=u_ q:=let⟨q,_,_,U,_⟩:=O;[q:U];exact kg I (by rw[e];exact Vi) hs he (oP hl hd (rel.put k rv) O)
 ·subst Z eH;cases(show u=UZ b from ry)
  erw[Aao I.hok e,z,hd,xs,rel,dd];have hz:↑xs<=sizeLine:=by rwa[<-Paired.length rel]
  have hl:↑(lD kvs k v)<=sizeLine:=by have:=yj kvs k v;omega
  refine wpAny_setItem_heap (hsz:=hz) (Ub hu) (Wp I.hok eb) dd λh' O hs=>h _ ?_;erw[O,q,es,ep,U,h2,h3,h4,_,h5];refine kg I (by rw[e];exact Vi) hs [q:U] ⟨hl,hd,_,(rel.put k eb rv).keeps λc ys ec=>?_,q,es,ep,U,h2,h3,h4,h5⟩
  rw[qk (S7 ec e (λz=>nomatch z))];exact ec
end
section
variable {X:Cx}{oq:oj (o3×Obj)}{σ:St}{H:Hp}{s:o7}{a:o3}{kvs:oj (Key×V)}{k:Key}{u:o6}{A:oh}{E:o6->o7->Prop}
def Aaq {v:V}{more:oj o6}{Q:o6->o7->Prop}(I:#[I])(e:H a=u_ (.dK kvs))(Z:ik (kV k) u)(l:iK kvs k=u_ v)(hm:more= []∨∃x,more= [x])
  (h:∀O s',Inv X oq σ (upd H a (.dK (j8 kvs k))) s'->ik v O->Q O s'):UU #[X,X] A (call (.builtin "dict.pop") (.ref a::u::more)) Q E s:=by
 erw[IM I.hok e,z,hd,vs,rel,dd];obtain⟨O,hw,aa⟩:=mX.some_of (v:=v) (o:=VJ vs k) (by rw[<-l];exact rel.val k)
 have hp:(keyPart u).isSome=true:=by
  cases k with
  |inl i=>obtain⟨t,q⟩:=(show∃t,u=VP i t from Z);subst q;rfl
  |inr x=>obtain⟨t,q⟩:=(show∃t,u=Vj x t from Z);subst q;rfl
 have ha:argsOk "dict.pop" ⟨.ref a::u::more,[]⟩:=by
  rcases hm with q|⟨x,q⟩
  ·subst q;exact PySem.F.args_dict_pop_2 _ _
  ·subst q;exact PySem.F.args_dict_pop_3 _ _ _
 refine H_ PySem.F.slot_dict_pop dd.typeIs PySem.F.entry_dict_pop ha (meets_dict_pop_there (Qk X.prog X.w) a (ou Z) more hm hp)
  ⟨vs,O,dd,by rwa[<-↑rel],hw,λh' U hs=>h O _ ?_ aa⟩
 have he:∃q,h'.get? a=u_ q:=let⟨q,_,_,hq,_⟩:=U;[q:hq];exact kg I (by rw[e];exact Vi) hs he (oP (uQ (AF kvs k) z) hd (rel.drop k) U)
def Aar {Q:o6->o7->Prop}(I:#[I])(e:Rd H a (.dK kvs))(h:∀t s',Inv X oq σ H s'->Q (.int ↑kvs t) s'):UU #[X,X] A (call (.builtin "len") [.ref a]) Q E s:=by
 erw[oO I.hok e,z,hd,vs,rel,dd];refine call_len_dict hd dd (by rw[<-↑rel];rw[uD] at z;omega) ?_
 rw[<-↑rel];exact h _ _ (I.tok _)
end
nonrec def Aa0 (i:Expr):Prop:=∀ov iv,Gz i UT ov iv=GM [ov,iv] (Vm ov iv)
def Lm {prog:o9}{w:og}{A:oh}{E:o6->o7->Prop}{s:o7}{env:Env}{value slice:Expr}{pos:Pos}{T id:String}{Q:o6->o7->Prop}
  (hl:GJ (.type T) "__getitem__"=pure (u_ (.builtin id))) (hs:Aa0 slice)
  (h:UU #[w,w] A (eval value env) (λo Z=>UU #[w,w] A (eval slice env) (λi O=>O.TypeIs o T/\UU #[w,w] A (Vm o i) Q E O) E Z) E s):
  UU #[w,w] A (eval (.Subscript value slice pos) env) Q E s:=by
 refine G_ (vI h (λo Z h₁=>vI h₁ (λi O U=>?_) λ_ _ x=>x) λ_ _ x=>x);erw[U,hT,U];unfold GH;refine A7 ?_;rw[getitemInPython_of_ne hT.not_modules];refine A7 (wpAny_specialOf hT hl ?_);have fin:UU #[w,w] A (Gz slice UT o i) (λr s₃=>UU #[w,w] A (letTemporaryGo value o r>>=λ_=>pure r) Q E s₃) E O:=by
  rw[hs o i];exact wpAny_operating (vI U (λr s₃ h₃=>A7 (wpAny_letTemporaryGo (uF h₃))) λ_ _ x=>x)
 first
  |exact uF (A7 fin)
  |exact A7 (uF (A7 fin))
  |exact A7 fin
variable {X:Cx}{oq:oj (o3×Obj)}{σ:St}{s:o7}{a:o3}
def sw {o:om V}(I:#[I])(g:mJ H a y o):s.TypeIs (.ref a) "dict":=by
 rcases g with⟨kvs,k,e,_,_⟩|⟨kvs,k,b,e,_,_,_⟩
 ·erw[oO I.hok e,_,_,vs,_,dd];exact dd.typeIs
 ·erw[sr I.hok e,_,_,xs,_,dd];exact dd.typeIs
inductive K0 (Q:VK)(x:V)(y:V)(H2:Hp):Prop
 |mk (a:_)(v:_)(_:x= .ref a)(_:mJ H2 a y (u_ v))(_:Q v H2)
nonrec def SK (td ty:TE):TE:=λσ H Q=>td σ H λx H1=>ty σ H1 λy H2=>K0 Q x y H2
inductive AaA (Q:VK)(y:V)(x:V)(H2:Hp):Prop
 |mk (a:_)(o:_)(_:x= .ref a)(_:mJ H2 a y o)(_:Q (.bl o.isSome) H2)
nonrec def Aa8 (ty td:TE):TE:=λσ H Q=>ty σ H λy H1=>td σ H1 λx H2=>AaA Q y x H2
inductive IQ (Q:VK)(y:V)(x:V)(H2:Hp):Prop
 |mk (a:_)(o:_)(_:x= .ref a)(_:mJ H2 a y o)(_:Q (.bl (!o.isSome)) H2)
nonrec def Lk (ty td:TE):TE:=λσ H Q=>ty σ H λy H1=>td σ H1 λx H2=>IQ Q y x H2
inductive RZ (D:mP)(σ:St)(v:V)(x:V)(y:V)(H3:Hp):Prop
 |mk (a:_)(H4:_)(_:x= .ref a)(_:Eg H3 a y v H4)(_:D.nx σ H4)
nonrec def SS (td ty tv:TE):TS:=λD σ H=>tv σ H λv H1=>td σ H1 λx H2=>ty σ H2 λy H3=>RZ D σ v x y H3
section
variable {X:Cx}{o i e value:Expr}{pos pos' tpos:Pos}{td ty tv:TE}
def Qt (Z:X.A.units+1<V3)(ho:PE X o td)(hi:PE X i ty)(hs:Aa0 i):PE X (.Subscript o i pos) (SK td ty):=by
 exists 2,Q,I,h;refine Lm PySem.F.slot_dict_getitem.lookup hs (thn (ho oq s σ H _ I h) λu s1 ⟨x,H1,I1,rx,q1⟩=>thn (hi oq s1 σ H1 _ I1 q1) λiv s2 zq=>?_);erw[zq,y,H2,U,ry,a,v,ex,g,q2];subst ex;obtain rfl:u=UZ a:=rx;exact[sw U g:D2 Z U g ry λw' s3 I3 O=>⟨v,H2,I3,O,q2⟩]
def Aj (O:X.A.units+1<V3)(hi:PE X i ty)(U:PE X o td):PC X .In i o (Aa8 ty td):=by
 exists 2,Q,I,h;refine thn (hi oq s σ H _ I h) λiv s1 ⟨y,H1,Z,ry,q1⟩=>thn (U oq s1 σ H1 _ Z q1) λu s2 zq=>?_;erw[zq,x,H2,I2,rx,a,ov,ex,g,q2];subst ex;obtain rfl:u=UZ a:=rx;exact Abw O I2 g ry λs3 I3=>⟨.bl ov.isSome,H2,I3,1,q2⟩
def Co (O:X.A.units+1<V3)(hi:PE X i ty)(U:PE X o td):PC X .NotIn i o (Lk ty td):=by
 exists 2,Q,I,h;refine thn (hi oq s σ H _ I h) λiv s1 ⟨y,H1,Z,ry,q1⟩=>thn (U oq s1 σ H1 _ Z q1) λu s2 zq=>?_;erw[zq,x,H2,I2,rx,a,ov,ex,g,q2];subst ex;obtain rfl:u=UZ a:=rx;exact Nz O I2 g ry λs3 I3=>⟨.bl (!ov.isSome),H2,I3,1,q2⟩
def Jp (O:X.A.units+1<V3)(U:PE X o td)(hi:PE X i ty)(Z:PE X value tv)(hs:Gk value (u_ (.Subscript o i pos')) pos.line X.env=pure UT):
  PS X (.Assign [.Subscript o i pos'] value pos) (SS td ty tv):=by
 exists 2,D,I,h;refine wpAny_Assign_Subscript (thn (Z oq s σ H _ I h) λr s1 ⟨v,H1,I1,rv,q1⟩=>thn (U oq s1 σ H1 _ I1 q1) λu s2 ⟨x,H2,I2,rx,q2⟩=>thn (hi oq s2 σ H2 _ I2 q2) λiv s3 zq=>?_) hs;erw[zq,y,H3,I3,ry,a,H4,ex,g,q3];subst ex;obtain rfl:u=UZ a:=rx;exact D0 O I3 g ry rv λs4 I4=>⟨σ,H4,I4,q3⟩
end
def AG {P:o9}(h:o8)(O:Ve<h.objs.size):yt P w H (h.push {cls:= .type "dict",data:= .dict #[]}) h.objs.size (.dK []):=
 ⟨uW _,beq_eq_false_iff_ne.mpr (Uo (uR O)),[],.nil,rM h⟩
nonrec def On:TE:=λ_ H Q=>∀p,H p=US->Q (.ref p) (upd H p (.dK []))
section
variable {X:Cx}{pos:Pos}
def Xg:PE X (.Dict [] [] pos) On:=λoq s σ H Q I h=>
 wpAny_Dict_empty ⟨.ref #[0,s],_,I.laid (a:=#[0,s]) (o:= .dK []) (t':=s.toks) (λ_ _ q=>ug _ q) (uj _) (AG s.heap I.big),1,h _ (I.hok.fresh (uj _))⟩
end
nonrec def BK:oj (TE×TE)->St->Hp->(oj (V×V)->Hp->Prop)->Prop
 | [],_,H,Q=>Q [] H
 |(tk,tv)::r,σ,H,Q=>tk σ H λx H1=>tv σ H1 λy H2=>BK r σ H2 λps H3=>Q ((x,y)::ps) H3
noncomputable abbrev VV:oj (V×V)->oj (o6×o6)->Prop:=Paired λp q=>ik p.1 q.1/\ik p.2 q.2
nonrec def PPs (X:Cx)(pos:Pos)(keys:oj (om Expr))(values:oj Expr)(trs:oj (TE×TE)):Prop:=
 ∀(oq:oj (o3×Obj)) (s:o7) (σ:St) (H:Hp) (Q:oj (V×V)->Hp->Prop),#[I]->BK trs σ H Q->
  UU #[X,X] X.A (evalPairs (pairTrees keys values X.env pos)) (λvs s'=>∃ps H',Inv X oq σ H' s'/\VV ps vs/\Q ps H') X.xe s
variable {pos:Pos}
def Md:PPs X pos [] [] []:=λoq s σ H Q I h=>pairTrees_nil_walk ⟨[],H,I,.nil,h⟩
def Xm {X:Cx}{pos:Pos}{k v:Expr}{ks:oj (om Expr)}{vs:oj Expr}{tk tv:TE}{O:oj (TE×TE)}(U:PE X k tk)(Z:PE X v tv)(hr:PPs X pos ks vs O):
  PPs X pos (u_ k::ks) (v::vs) ((tk,tv)::O):=λoq s σ H Q I h=>
 pairTrees_cons_walk (thn (U oq s σ H _ I h) λu s1 ⟨x,H1,I1,rx,q1⟩=>thn (Z oq s1 σ H1 _ I1 q1) λw2 s2 ⟨y,H2,I2,ry,q2⟩=>
  thn (hr oq s2 σ H2 _ I2 q2) λws s3 ⟨ps,H3,I3,rel,q3⟩=>⟨(x,y)::ps,H3,I3,.cons [rx:ry] rel,q3⟩)
nonrec def zH (kvs more:oj (Key×V)):oj (Key×V):=more.foldl (λacc kv=>lD acc kv.1 kv.2) kvs
def KV.merge:∀{more:oj (Key×V)}{rs:oj (Key×o6)}{kvs:oj (Key×V)}{vs:oj (Key×o6)},KV more rs->KV kvs vs->KV (zH kvs more) (merged vs rs):=by
 intro more rs kvs vs r;unfold KV at r
 induction r generalizing kvs vs with
 |nil=>intro q;exact q
 | @cons p q ps qs h t ih=>
  intro O;have e:KV (lD kvs p.1 p.2) (VL vs q.1 q.2):=by
   have:=O.put p.1 h.2;rw[<-h.1];exact this
  exact ih e
def Xz:∀(more kvs:oj (Key×V)),↑(zH kvs more)<=↑kvs+↑more
 | [],kvs=>by show ↑kvs<=↑kvs+0;omega
 |p::r,kvs=>by
  have h1:=Xz r (lD kvs p.1 p.2);have h2:=yj kvs p.1 p.2;show(zH (lD kvs p.1 p.2) r).length<=_;rw[um];omega
def WQ {P:o9}{w:og}:∀{kvs:oj (Key×V)}{ws:oj (o6×o6)},VV (kvs.map λkv=>(kV kv.1,kv.2)) ws->∃rs,Carries (Qk P w) ws rs/\KV kvs rs
 | [],_,r=>by rw[U3] at r;cases r;exact[[]:Vi:.nil]
 |p::kvs,_,r=>by
  rw[uB] at r;cases r with
  | @cons a b as bs h t=>
   erw[WQ (P:=P) (w:=w) t,rs,c,q];erw[b,b1,b2];exact[(p.1,b2)::rs:[ou h.1:1:c]:.cons [1:h.2] q]
nonrec def SJ (trs:oj (TE×TE)):TE:=λσ H Q=>∀p,H p=US->BK trs σ (upd H p (.dK [])) λps H2=>H2 p=u_ (.dK [])/\∃kvs:oj (Key×V),ps=kvs.map (λkv=>(kV kv.1,kv.2))/\↑kvs<=15/\Q (.ref p) (upd H2 p (.dK (zH [] kvs)))
def Mi {X:Cx}{pos:Pos}{keys:oj (om Expr)}{O:oj Expr}{U:oj (TE×TE)}(h:PPs X pos keys O U)(Z:keys.all (·.isSome)=v_)(hl:↑keys=↑O)(h0:keys≠ [])
  (ac:↑keys<=15):PE X (.Dict keys O pos) (SJ U):=by
 exists 2,Q,I,q;have hn:=I.hok.fresh (uj #[0,s]);have I1:=I.laid (a:=#[0,s]) (o:= .dK []) (h':=s.heap.push {cls:= .type "dict",data:= .dict #[]}) (t':=s.toks) (λ_ _ q=>ug _ q) (uj _) (AG s.heap I.big);refine wpAny_Dict_walk (knd:=Qk X.prog X.w) Z hl h0 ac (thn (h oq _ σ _ _ I1 (q _ hn)) λws s2 zq=>?_);erw[zq,ps,H2,I2,rel,e,kvs,ep,lk,q2];subst ep;erw[WQ (P:=X.prog) (w:=X.w) rel,rs,c,rk];erw[IM I2.hok e,z,hd,ad,r0,dd];cases r0;exists rs,c,dd,λh' aa hs=>⟨.ref #[0,s],_,?_,1,q2⟩;have hz:↑(zH [] kvs)<=sizeLine:=by
  have h1:=Xz kvs [];rw[UD] at h1;rw[uD];omega
 have he:∃q,h'.get? #[0,s]=u_ q:=let⟨q,_,_,hq,_⟩:=aa;[q:hq];exact kg I2 (by rw[e];exact Vi) hs he (oP hz hd (rk.merge .nil) aa)
structure M1 (X:Cx)(o:Expr)(m:Str)(apos:Pos)(e:Expr)(cpos:Pos):Prop where
 base:gS o m X.env (eval o X.env)=eval o X.env
 few:((V6 cpos (UY [e] X.env)).all (λx=> !x.1)&&(Gf cpos (Gb [] X.env)).all (λx=>x.1.isSome)
  &&decide (↑([e]:oj Expr)+↑([]:oj gW)+(if([]:oj gW).isEmpty then 0 else 1)<30))=v_
 line:(apos.endLine==cpos.line)=v_
 trees:V6 cpos (UY [e] X.env)= [(UT,eval e X.env)]
nonrec def IsD (H:Hp)(a:o3):Prop:=(∃kvs,Rd H a (.dK kvs))∨∃kvs,Rd H a (.dT kvs)
def KI (I:#[I])(d:IsD H a):
  s.TypeIs (.ref a) "dict"/\(∀b,UZ a= .ref b->∃ob,s.heap.get? b=u_ ob/\ob.dict=US)/\(a==Ve)=false:=by
 rcases d with⟨kvs,e⟩|⟨kvs,e⟩
 ·erw[oO I.hok e,_,hd,vs,_,dd];exists dd.typeIs,λb q=>?_,hd;cases q;erw[dd,ob,_,_,h1,h2,_];exact[ob:h1:h2.2.1]
 ·erw[sr I.hok e,_,hd,xs,_,dd];exists dd.typeIs,λb q=>?_,hd;cases q;erw[dd,ob,_,_,h1,h2,_];exact[ob:h1:h2.2.1]
section
variable {X:Cx}{oq:oj (o3×Obj)}{σ:St}{H:Hp}{s:o7}{a:o3}{y d:V}{u r:o6}{o:om V}{A:oh}{E:o6->o7->Prop}
def PQ {Q:o6->o7->Prop}(hu:A.units+1<V3)(I:#[I])(g:mJ H a y o)(U:ik y u)(h:∀Z s',Inv X oq σ H s'->ik (o.getD .non) Z->Q Z s'):
  UU #[X,X] A (call (.builtin "dict.get") [.ref a,u]) Q E s:=by
 rcases g with⟨kvs,k,e,O,l⟩|⟨kvs,k,b,e,O,eb,l⟩
 ·subst O;erw[oO I.hok e,z,hd,vs,rel,dd];refine H_ PySem.F.slot_dict_get dd.typeIs PySem.F.entry_dict_get (PySem.F.args_dict_get_2 _ _) (meets_dict_get (Qk X.prog X.w) a (ou U) hd) [_:dd.mapOf:h _ _ (I.tok _) ?_];rw[l];exact(rel.val k).getD rfl
 ·subst O;cases(show u=UZ b from U)
  erw[sr I.hok e,z,hd,xs,rel,dd];refine H_ PySem.F.slot_dict_get dd.typeIs PySem.F.entry_dict_get (PySem.F.args_dict_get_2 _ _) (meetsH_dict_get (gZ (Qk X.prog X.w)) a b hd) ⟨Ub hu,k,xs,Wp I.hok eb,dd,h _ _ (I.tok _) ?_⟩;rw[l];exact(rel.val k).getD rfl
end
inductive NP (ty:TE)(σ:St)(Q:VK)(x:V)(H1:Hp):Prop
 |mk (a:_)(_:x= .ref a)(_:IsD H1 a)(_:ty σ H1 λy H2=>∃o,mJ H2 a y o/\Q (o.getD .non) H2)
nonrec def Oo (td ty:TE):TE:=λσ H Q=>td σ H λx H1=>NP ty σ Q x H1
inductive NO (ty:TE)(σ:St)(Q:VK)(x:V)(H1:Hp):Prop
 |mk (a:_)(_:x= .ref a)(_:IsD H1 a)(_:ty σ H1 λy H2=>∃kvs k v,H2 a=u_ (.dK kvs)/\y=kV k/\iK kvs k=u_ v/\Q v (upd H2 a (.dK (j8 kvs k))))
nonrec def Om (td ty:TE):TE:=λσ H Q=>td σ H λx H1=>NO ty σ Q x H1
section
variable {X:Cx}{o e f:Expr}{apos cpos:Pos}{td ty tx:TE}
def Ai (Z:X.A.units+1<V3)(ho:PE X o td)(he:PE X e ty)(m:M1 X o "get" apos e cpos):PE X (.Call (.Attribute o "get" apos) [e] [] cpos) (Oo td ty):=by
 exists 2,Q,I,h;refine rZ m.base m.few m.line PySem.F.plainAttrs_dict PySem.F.slot_dict_get PySem.F.type_dict_get (thn (ho oq s σ H _ I h) λu s1 zq=>?_);erw[zq,x,H1,U,rx,a,ex,d,q1];subst ex;obtain rfl:u=UZ a:=rx;erw[KI U d,t1,t2,_];exists t1,t2;rw[m.trees];refine U7 rfl (Up (tu (thn (he oq s1 σ H1 _ U q1) λiv s2 ⟨y,H2,I2,ry,ov,g,q2⟩=>HR ?_)));exact PQ Z I2 g ry λw' s3 I3 O=>⟨_,H2,I3,O,q2⟩
def ET (Z:PE X o td)(he:PE X e ty)(m:M1 X o "pop" apos e cpos):PE X (.Call (.Attribute o "pop" apos) [e] [] cpos) (Om td ty):=by
 exists 2,Q,I,h;refine rZ m.base m.few m.line PySem.F.plainAttrs_dict PySem.F.slot_dict_pop PySem.F.type_dict_pop (thn (Z oq s σ H _ I h) λu s1 zq=>?_);erw[zq,x,H1,U,rx,a,ex,d,q1];subst ex;obtain rfl:u=UZ a:=rx;erw[KI U d,t1,t2,_];exists t1,t2;rw[m.trees];refine U7 rfl (Up (tu (thn (he oq s1 σ H1 _ U q1) λiv s2 ⟨y,H2,I2,ry,kvs,k,v,ea,ey,l,q2⟩=>HR ?_)));subst ey;exact Aaq I2 ea ry l (.inl rfl) λw' s3 I3 O=>⟨v,_,I3,O,q2⟩
end
end L2
namespace Att
open PySem PySem.W PySem.Calls PyProof.Rows
variable {h:o8}
def Z4 {P:GP}:∀(ns:oj Int) (vs:oj o6),WellAll P h vs (ns.map WData.int)->VU vs ns:=by
 intro ns
 induction ns with
 |nil=>
  intro vs w;rw[U3] at w;cases w;exact .nil
 |cons n ns O=>
  intro vs w;rw[uB] at w;cases w with
  |cons a b=>
   cases a;exact .cons _ _ (O _ b)
def Cb {l:OpenLaw}{n:Nat}(hn:l.most=u_ n){P:GP}{h:o8}{args:oj WData}{O:oj o6}
  (U:l.row.toRowW.claim.pre args=v_) (ac:WellAll P h O args):
  ∃a vs ns,O= [UZ a]/\args= [WData.list (ns.map WData.int)]/\h.get? a=u_ {cls:= .type "list",data:= .seq vs.toArray}/\VU vs ns/\↑ns<=n:=by
 have ad:WShape.hasAll [] args [.list .int]=true:=(pre_splitW U).1;have hc:l.pre.holds [] {args:=args}=true:=(pre_splitW U).2;erw[hasAllW_cons ad,d,r,rfl,h1,h2];obtain rfl:=hasAllW_nil h2;erw[hasW_list h1,xs,rfl,h3];erw[items_int h3,ns,rfl];have Z:↑ns<=n:=by
  unfold OpenLaw.pre at hc;have h4:(WTm.not (.lt (.lit (.int (n:Int))) (.len (.arg 0)))).holds [] {args:= [.list (ns.map .int)]}=true:=by
   have h4:=(holds_andW hc).1;rwa[hn] at h4
  have h5:=condW_of h4 (w_not (w_lt w_lit (w_len_list (w_arg rfl))));rw[ue] at h5;refine Nat.le_of_not_lt λq=>?_;have q':(n:Int)<((↑ns:Nat):Int):=by omega
  first
   |(rw[ud q'] at h5;exact A8 h5 ())
   |(simp at h5;omega)
 cases ac with
 |cons w1 w2=>
  cases w2;cases w1 with
  |list ho aa=>exact⟨_,_,ns,1,1,ho,Z4 ns _ aa,Z⟩
def Cm (l:OpenLaw)(args:oj WData):l.row.toRowW.claim.post args (.bool v_) args=true:=
 postW_of (r:=l.row.toRowW) (X:=(v_==v_))
  (show WShape.has [] (.bool v_) .bool=v_ by first|rfl|decide|simp[WShape.has,WShape.arms,WShape.armsAll])
  (show(WTm.eq .res (.lit (.bool v_))).value [] {args:=args,res:=u_ (.bool v_),after:=args}=u_ (.bool (v_==v_)) from w_eq_bool (w_res rfl) w_lit) rfl
def attach_call {l:OpenLaw}{n:Nat}{q:o9}{O:oj Str}{XP:(Str->om o6)->o8->Prop}{YP:og->o8->Prop}{d:DefRec}
  (hn:l.most=u_ n) (ad:d.params.defaults= [])
  (call:∀(w:og) (s₀ U:o7) (mg mb:Str->om o6) (fa:o3) (o:Obj) (pm cd doc:o6) (a:o3) (vs:oj o6) (ns:oj Int),
   Ground q O [] XP w s₀ mg mb U.heap->YP w U.heap->
   U.heap.get? fa=u_ o->o.data= .func (docDef d.name d.params d.body d.scope pm cd doc)->U.heap.CodeRec cd d.name->mg d.name=u_ (.ref fa)->
   U.heap.get? a=u_ {cls:= .type "list",data:= .seq vs.toArray}->VU vs ns->↑ns<=n->U.gens= #[]->
   Vn (V8 l.prog w) VR (.call (.ref fa) [[.ref a]:[]]) (λr s'=>r= .ok (.ret (.bool v_))/\OldK U.heap s'.heap/\s'.os=U.os/\Vv s'.gens) U):
  WalkO q O XP YP l.row.toRowW d [] (λf vs=>PySem.call f vs):=by
 intro w s₀ U mg mb G Y fa o pm cd doc dV kV ho hd ae hD af hg args ag as hpre hlay hrd hwl hlo;obtain rfl:dV= .none:=Dflts.none hD ad;obtain rfl:kV= .none:=Dflts.noKw hD;erw[Cb hn hpre hwl,a,vs,ns,rfl,rfl,aa,Z,ac];refine enter_call (Hi (call w s₀ U mg mb fa o pm cd doc a vs ns G Y ho (fd_plain hd) ae af aa Z ac hg) λr s' hq=>?_);erw[hq,rfl,h2,h3,h4];exact⟨.inl ⟨.bool v_,.bool v_,[],1,λ_=>rfl,.bool v_,Cm l _,λ_=>[Ff:λ_ hm=>(nomatch hm)]⟩,h2,h3,h4⟩
end Att
namespace L2
open PySem PySem.Spec PyProof.Rows
def m9:∀{vs:oj o6}{ns:oj Int},VU vs ns->im (ns.map V.int) vs
 |_,_,.nil=> .nil
 |_,_,.cons n t h=> .cons [t:1] (m9 h)
nonrec def Sl (H:Hp):Prop:=∀b,H b=US∨∃o xs,H b=u_ (.frz o (.lst xs))
def Iw {P:o9}{w:og}{K:o0}{mg mb:Str->om o6}{CX:CXT}{k:Nat}{fa a:o3}{fd:UW}{x:Str}{sp:Sp}{O:o7}{vs:oj o6}{ns:oj Int}
  (KX:K.In O.heap) (ae:O.heap.Ns Vc mg) (Z:O.heap.Ns t_ mb) (am:∀x:Str,x≠"__name__"->mb x=Ge x) (af:O.heap.NoLimit) (hg:O.gens= #[])
  (ha:O.heap.get? a=u_ {cls:= .type "list",data:= .seq vs.toArray}) (hi:VU vs ns) (hl:↑ns<=UX) (hr:mq k VR)
  (F:∀base:o8,K.In base->base.Ns Vc mg->FnOk P w K mg base CX k fa fd [x] sp) (ad:∀(s:o7) (u:o6),gX s fd [[u]:[]] [(x,u)])
  (ag:fd.scope.names.lookup x=u_ .local) (ao:∀H:Hp,Sl H->SqL K H a (ns.map V.int)->sp [.ref a] H (λv _=>v= .bl v_) λ_ _ _=>False)
  (ap:∀H e s',CX [] H O (λ_ _ _=>False) e s'->False):
  Vn (V8 P w) VR (.call (.ref fa) [[.ref a]:[]]) (λr s'=>r= .ok (.ret (.bool v_))/\OldK O.heap s'.heap/\s'.os=O.os/\Vv s'.gens) O:=by
 have rv:=m9 hi;have ah:=↑hi;have ac:∀H:Hp,Sl H->SqL K H a (ns.map V.int)->HOk P w H O.heap->(∀b,H b≠US->b=a)->(H a≠US->K.lookup a=US)->
   Vn (V8 P w) VR (.call (.ref fa) [[.ref a]:[]]) (λr s'=>r= .ok (.ret (.bool v_))/\OldK O.heap s'.heap/\s'.os=O.os/\Vv s'.gens) O:=by
  intro H hO hS hok hA hK;have U:∀{b:o3}{o:Obj},O.heap.get? b=u_ o->H b=US->(IF O.heap H).get? b=u_ o:=λe n=>IE e n;have aq:∀{b:o3}{o:Obj}{es:Array VY}{ep:Nat},O.heap.get? b=u_ o->o.data= .dict es ep->H b=none:=λ{b o es ep} e d=>by
   cases q:H b with
   |none=>rfl
   |some u=>
    have e':b=a:=hA b (by rw[q];simp)
    subst e';rw[ha] at e;cases e;have d':Data.seq vs.toArray _=Data.dict es ep:=d;cases d'
  have aa:∀{b:o3}{m:Str->om o6},O.heap.Ns b m->(IF O.heap H).Ns b m:=λ{b m} ⟨o,es,ep,e,d,r⟩=>⟨o,es,ep,U e (aq e d),d,r⟩;have ak:K.In (IF O.heap H):=λb o e=>U (KX b o e) (by
   cases q:H b with
   |none=>rfl
   |some u=>
    have e':b=a:=hA b (by rw[q];simp)
    subst e';rw[hK (by rw[q];simp)] at e;cases e)
  have hM:Mod K mg (IF O.heap H):=⟨ak,aa ae,[mb:aa Z:am],let⟨mc,h1,h2⟩:=af;[mc:aa h1:h2]⟩;have e0:NT P w K mg (IF O.heap H) VR [] O H:=⟨1,hM,λb o e=>MR e,Fv (Dx _ _),trivial,λb Z=>A8 (show b∈([]:oj o3) from Z) (by simp),hok,.of_eq hg⟩
  refine Hi ((F _ ak (aa ae)).run VR [] O H [[.ref a]:[]] [.ref a] [.ref a] _ _ hr e0 (ad O (.ref a)) (.cons rfl .nil) (ao H hO hS) (.inr [_:0:ag])) λr s' h=>?_;cases r with
  |error e=>exact(ap H e s' h).elim
  |ok fl=>
   cases fl with
   |next=>exact Vh h
   |brk=>exact Vh h
   |cont=>exact Vh h
   |ret u=>
    erw[h,v,H',os,bare,htk,un,al,r',q];have q':v= .bl true:=q;subst q';obtain rfl:u=GY true:=r';exists 1,OldK.of_keep λb o e=>?_,os,bare;cases q:H b with
    |none=>exact un.keep b o e q (by intro z;exact A8 (show b∈([]:oj o3) from z) (by simp)) (by simp)
    |some u=>
     rcases hO b with z|⟨ob,xs,z⟩
     ·rw[q] at z;cases z
     ·have z2:=un.frzs b ob _ z;erw[hok b _ z,e1,_];erw[al b _ z2,e2,_];rw[e] at e1;cases e1;exact e2
 cases hk:K.lookup a with
 |some o=>
  have e:=KX a o hk;rw[ha] at e;cases e;refine ac (λ_=>US) (λ_=> .inl rfl) (.inr ⟨_,vs.toArray,_,hk,1,1,1,by rwa[uw,ah],by simpa using rv⟩) (λb u z=>by have z':(US:om HO)=u_ u:=z;cases z') (λb z=>A8 rfl z) λz=>A8 rfl z
 |none=>
  refine ac (λb=>if b=a then u_ (.frz {cls:= .type "list",data:= .seq vs.toArray} (.lst (ns.map V.int))) else US) (λb=>?_) (.inl (.inr [{cls:= .type "list",data:= .seq vs.toArray}:A6 rfl])) (λb u z=>?_) (λb z=>?_) λ_=>hk
  ·by_cases Z:b=a
   ·exact .inr [_:_:A6 Z]
   ·exact .inl (A4 Z)
  ·by_cases Z:b=a
   ·have z':=(A6 Z).symm.trans z;cases z';subst Z;exact⟨ha,by rwa[ue],vs,_,rv,ha⟩
   ·have z':=(A4 Z).symm.trans z;cases z'
  ·by_cases Z:b=a
   ·exact Z
   ·exact A8 (A4 Z) z
noncomputable abbrev KOf {K:o0}{h:o8}(_:K.In h):o0:=K
def Ld {l:PySem.W.OpenLaw}{n k:Nat}{q:o9}{U:oj Str}{XP:(Str->om o6)->o8->Prop}{YP:og->o8->Prop}{d:DefRec}{K:GP->o0}{CX:og->CXT}{sp:og->Sp}{x:Str}
  (hn:l.most=u_ n) (ad:n<=UX) (ae:d.params.defaults= []) (hr:mq k VR)
  (hY:∀(w:og) (h:o8),YP w h->(K w.params).In h)
  (F:∀(w:og) (mg:Str->om o6) (fa:o3) (h:o8),(K w.params).In h->h.Ns Vc mg->mg d.name=u_ (.ref fa)->
   ∃fd:UW,(∀(s:o7) (u:o6),gX s fd [[u]:[]] [(x,u)])/\fd.scope.names.lookup x=u_ .local/\
    ∀base:o8,(K w.params).In base->base.Ns Vc mg->FnOk l.prog w (K w.params) mg base (CX w) k fa fd [x] (sp w))
  (af:∀(w:og) (H:Hp) (a:o3) (ns:oj Int),↑ns<=n->Sl H->SqL (K w.params) H a (ns.map V.int)->sp w [.ref a] H (λv _=>v= .bl v_) λ_ _ _=>False)
  (ag:∀(w:og) (H:Hp) (s:o7) (e:o6) (s':o7),CX w [] H s (λ_ _ _=>False) e s'->False):
  PySem.W.WalkO q U XP YP l.row.toRowW d [] (λf vs=>PySem.call f vs):=by
 refine Att.attach_call hn ae λw s₀ s₁ mg mb fa o pm cd doc a vs ns G Y ho hd ak ah aa Z O hg=>?_;have KX:=hY w _ Y;erw[F w mg fa _ KX G.T.g ah,fd,hb,ac,hF];exact Iw KX G.T.g G.T.b G.T.builtins G.T.nolimit hg aa Z (uQ O ad) hr hF hb ac (λH hO hS=>af w H a ns O hO hS) λH e s'=>ag w H s₁ e s'
def En {l:PySem.W.OpenLaw}{n k:Nat}{q:o9}{O:oj Str}{XP:(Str->om o6)->o8->Prop}{YP:og->o8->Prop}{d:DefRec}{K:GP->o0}{CX:CXT}{sp:o0->Sp}{x:Str}
  (hn:l.most=u_ n) (U:n<=UX) (Z:d.params.defaults= []) (hr:mq k VR)
  (hY:∀(w:og) (h:o8),YP w h->(K w.params).In h)
  (F:∀(w:og) (mg:Str->om o6) (fa:o3) (h:o8),(K w.params).In h->h.Ns Vc mg->mg d.name=u_ (.ref fa)->
   ∃fd:UW,(∀(s:o7) (u:o6),gX s fd [[u]:[]] [(x,u)])/\fd.scope.names.lookup x=u_ .local/\
    ∀base:o8,(K w.params).In base->base.Ns Vc mg->FnOk l.prog w (K w.params) mg base CX k fa fd [x] (sp (K w.params)))
  (aa:∀(K:o0) (H:Hp) (a:o3) (ns:oj Int),↑ns<=n->Sl H->SqL K H a (ns.map V.int)->sp K [.ref a] H (λv _=>v= .bl v_) λ_ _ _=>False)
  (ac:∀(H:Hp) (s:o7) (e:o6) (s':o7),CX [] H s (λ_ _ _=>False) e s'->False):
  PySem.W.WalkO q O XP YP l.row.toRowW d [] (λf vs=>PySem.call f vs):=
 Ld (K:=K) (CX:=λ_=>CX) (sp:=λw=>sp (K w.params)) hn U Z hr hY F (λw H a ns h1 h2 h3=>aa (K w.params) H a ns h1 h2 h3) λ_ H s e s'=>ac H s e s'
nonrec def Qe (s:Stmt)(j:Nat):Stmt:=match s with
 | .ClassDef _ _ _ body _ _ _ _ _ _ _=>body.getD j (.Pass ⟨(0),(0),(0),(0)⟩)
 |_=> .Pass ⟨(0),(0),(0),(0)⟩
nonrec def YA (s:Stmt):Arguments:=match s with
 | .FunctionDef _ a _ _ _ _ _ _ _ _=>a
 |_=>{posonlyargs:= [],args:= [],vararg:=US,kwonlyargs:= [],kw_defaults:= [],kwarg:=US,defaults:= []}
nonrec def yV (s:Stmt):oj Stmt:=match s with
 | .FunctionDef _ _ b _ _ _ _ _ _ _=>b
 |_=> []
nonrec def qi (s:Stmt):Scope:=match s with
 | .FunctionDef _ _ _ _ _ _ sc _ _ _=>sc
 |_=>{kind:= .function,names:= [],isGenerator:=UT,isCoroutine:=UT}
noncomputable abbrev CX0:CXT:=λ_ _ _ _ _ _=>False
noncomputable abbrev E0:XK:=λ_ _ _=>False
variable {X:Cx}
def qz:XM CX0 X E0:=λ_ _ _ _ _ _ _ h=>h.elim
structure Fun (K:o0)(x qual:Str)(st:Stmt)(f:o3)(fd:UW):Prop where
 ex:∃(oc:o6) (od:om o3) (kV doc pm:o6) (an:om o3) (cdv ct:o6) (osl:Array (om o6)),
  fd=PySem.W.fnOf x qual (YA st) (yV st) (qi st) .none kV doc pm an cdv ct/\K.lookup f=u_ ⟨oc,od,.func fd,osl⟩/\PySem.W.codeIn K cdv qual=v_
 kp:PySem.W.keepIn K (.ref f)=v_
section
variable {P:o9}{w:og}{K:o0}{mg:Str->om o6}{base:o8}
def Fun.ok {x qual:Str}{st:Stmt}{f:o3}{fd:UW}{N ps:oj Str}{k:Nat}{sp:Sp}(F:Fun K x qual st f fd)(S:qv N ps (qi st))(len:∀vs H Q E,sp vs H Q E->↑vs=↑ps)
  (O:∀(cdv:o6) (A:oh) (outer:oj Env) (s:o7) (H:Hp) (vs:oj V) (Q:VK) (E:XK),mq k (A.deeper (U_ qual (qi st) #[0,s] f cdv))->sp vs H Q E->
   ∃t,PSs (cxOf CX0 P w K mg base N qual (qi st) f cdv A outer s H E).nox (yV st) t/\t {nx:=λ_ H'=>Q .non H',rt:=Q} (W9 N vs) H):FnOk P w K mg base CX0 (k+1) f fd ps sp:=by
 erw[F.ex,oc,od,kV,doc,pm,an,cdv,ct,osl,rfl,lk,U];refine PD lk U S len λA outer s H vs Q E hr Z=>?_;erw[O cdv A outer s H vs Q E hr Z,t,h,q];exact[t:h.nox:q]
def Fun.binds {x qual:Str}{st:Stmt}{f:o3}{fd:UW}{ps:oj Str}(F:Fun K x qual st f fd)
  (h:∀(kV doc pm:o6) (an:om o3) (cdv ct:o6) (us:oj o6),↑us=↑ps->VM (PySem.W.fnOf x qual (YA st) (yV st) (qi st) .none kV doc pm an cdv ct) [us:[]]=pure (ps.zip us)):zi K fd ps []:=by
 erw[F.ex,oc,od,kV,doc,pm,an,cdv,ct,osl,rfl,lk,O];exact .all (h kV doc pm an cdv ct)
def KP {x qual:Str}{st:Stmt}{f:o3}{oc:o6}{od an:om o3}{osl:Array (om o6)}{kV doc pm cdv ct:o6}(l:K.lookup f=u_ ⟨oc,od,.func (PySem.W.fnOf x qual (YA st) (yV st) (qi st) .none kV doc pm an cdv ct),osl⟩)
  (c:PySem.W.codeIn K cdv qual=v_) (k:PySem.W.keepIn K (.ref f)=v_):Fun K x qual st f (PySem.W.fnOf x qual (YA st) (yV st) (qi st) .none kV doc pm an cdv ct):=[⟨oc,od,kV,doc,pm,an,cdv,ct,osl,1,l,c⟩:k]
end
variable {A:oh}
def QU {k:Nat}(O:mq k A):A.units+1<cLine:=Uc (Nat.add_le_add_left (by decide:1<=64) _) O.units
variable {n:Nat}
def Xo (h:n<=1000):n<sizeLine:=Uc h ()
section
variable {X:Cx}
def pv (i:Nat){x:Str}{pos:Pos}(U:X.N[i]? =u_ x:=by rfl)(Z:Vis X.env.scope x:=by first|exact Gi rfl|exact VI (Gi rfl)|exact VI (VI rfl))(hd:(x==("__debug__":Str))=false:=by decide)
  (O:(x==("__classdict__":Str))=false:=by decide):PE X (.Name x pos) (Li i):=OQ U Z hd O
def D6:YN X (.builtin "len") (λxs H Q=>∃a kvs,xs= [V.ref a]/\H a=u_ (.dK kvs)/\Q (.int ↑kvs) H):=by
 exists 2,xs,us,Q,I,r,h;erw[h,a,kvs,rfl,ha,q];erw[Xq r,u,rfl,ru];cases ru;exact Aar I (.inl ha) λt s' O=>⟨.int ↑kvs,H,O,[t:1],q⟩
end
def iS {A B:Prop}(h:B):if UT=v_ then A else B:=by
 rw[A4 uc];exact h
def i9 {A B:Prop}(h:A):if v_=v_ then A else B:=by
 rw[A6 rfl];exact h
def lI {c A B:Prop}[Decidable c](h1:c->A)(h2:¬c->B):if c then A else B:=by
 by_cases h:c
 ·rw[A6 h];exact h1 h
 ·rw[A4 h];exact h2 h
nonrec def ic (H H':Hp):Prop:=∀b o,H b=u_ o->H' b=u_ o
def ic.refl (H:Hp):ic H H:=λ_ _ h=>h
variable {H H1 H2:Hp}
def ic.trans (a:ic H H1)(b:ic H1 H2):ic H H2:=λc o h=>b c o (a c o h)
variable {H':Hp}
def ic.free (e:ic H H'){l:o3}(h:H' l=Option.none):H l=Option.none:=by
 cases q:H l with
 |none=>rfl
 |some o=>
  rw[e l o q] at h;cases h
section
variable {κ:Type}[DecidableEq κ]
variable {kvs:oj (κ×V)}{v:V}
def Lg {k:κ}(h:iK kvs k=u_ v):k∈kvs.map (·.1):=by
 have q:(kvs.any λkv=>decide (kv.1=k))=true:=by
  rw[JS,h]
  all_goals rfl
 erw[List.any_eq_true.mp q,p,O,e];exact Ae.mpr [p:O:uu e]
def DS {p:κ×V}{r:oj (κ×V)}{k:κ}(e:p.1=k):j8 (p::r) k=j8 r k:=by
 unfold j8;rw[vt,A4 (by simp[e])]
def DT {p:κ×V}{r:oj (κ×V)}{k:κ}(e:¬p.1=k):j8 (p::r) k=p::j8 r k:=by
 unfold j8;rw[vt,A6 (by simp[e])]
end
end L2
namespace L2
open PySem
inductive D where
 |non|bl (b:Bool)|int (i:Int)|str (z:Str)|lst|dct|tup (xs:List D)
nonrec def Qz (c:Nat):Bool:=decide (32<=c)&&decide (c<=126)&&decide (c≠37)
nonrec def Qs (z:Str):Bool:=decide (↑z<=300)&&z.cps.toList.all Qz
mutual
noncomputable def iL:D->Bool
 | .str z=>Qs z
 | .tup xs=>decide (↑xs<=40)&&goodL xs
 |_=>UT
noncomputable def goodL:oj D->Bool
 | []=>v_
 |x::r=>iL x&&goodL r
end
mutual
noncomputable def sz:D->Nat
 | .str z=>↑z+1
 | .tup xs=>1+szL xs
 |_=>0
noncomputable def szL:oj D->Nat
 | []=>0
 |x::r=>sz x+szL r
end
mutual
noncomputable def dp:D->Nat
 | .str _=>1
 | .tup xs=>1+dpL xs
 |_=>0
noncomputable def dpL:oj D->Nat
 | []=>0
 |x::r=>max (dp x) (dpL r)
end
mutual
noncomputable def nd:D->Nat
 | .tup xs=>1+ndL xs
 |_=>1
noncomputable def ndL:oj D->Nat
 | []=>0
 |x::r=>nd x+ndL r
end
nonrec def isT (d:D):Bool:=iL d&&decide (sz d<=600)&&decide (dp d<=12)
def X0:∀(xs ys:oj D),szL (xs++ys)=szL xs+szL ys
 | [],ys=>by simp[szL]
 |x::r,ys=>by simp![Ur,szL,X0 r ys];omega
def XX:∀(xs ys:oj D),ndL (xs++ys)=ndL xs+ndL ys
 | [],ys=>by simp[ndL]
 |x::r,ys=>by simp![Ur,ndL,XX r ys];omega
def wm {k:Nat}:∀(xs:oj D),dpL xs<=k↔∀x∈xs,dp x<=k
 | []=>by simp[dpL]
 |x::r=>by
  have U:=wm (k:=k) r;have e:dpL (x::r)=max (dp x) (dpL r):=by simp![dpL]
  rw[e];constructor
  ·intro h y O;rcases Aa.mp O with rfl|O
   ·omega
   ·exact U.mp () y O
  ·intro h;have h1:=h x ui;have h2:=U.mpr λy O=>h y (uh _ O);omega
def PL {d:D}(h:iL d=v_):1<=dp d:=by
 cases d<;>simp_all [iL,dp]
nonrec def wOk (w:oj (D×Nat)):Bool:=w.all λp=>iL p.1&&decide (p.2+dp p.1<=13)
nonrec def wSz (w:oj (D×Nat)):Nat:=szL (w.map (·.1))
nonrec def G (w:oj (D×Nat))(n:Nat):Bool:=wOk w&&decide (n+wSz w<=600)
def NQ (d:D):G [(d,1)] 0=isT d:=by
 simp![G,wOk,wSz,isT,vq,Fw,uB,U3,szL,vU,Hu,FN];have e:decide (1+dp d<=13)=decide (dp d<=12):=by
  rw[uX];omega
 rw[e];cases iL d<;>cases decide (sz d<=600)<;>cases decide (dp d<=12)<;>rfl
variable {n:Nat}
def AaG (h:n<=600):G [] n=true:=by simp[G,wOk,wSz,szL,h]
def pc (w:oj (D×Nat))(d:D)(k n:Nat):G (w++ [(d,k)]) n=(wOk w&&(iL d&&decide (k+dp d<=13))&&decide (n+(wSz w+sz d)<=600)):=by
 simp![G,wOk,wSz,UE,vq,Fw,vU,uz,uB,U3,X0,szL,FN]
 rfl
def NR {w:oj (D×Nat)}{d:D}{k:Nat}(h:iL d=UT):G (w++ [(d,k)]) n=false:=by
 rw[pc,h];simp
def La {w:oj (D×Nat)}{d:D}{k:Nat}(h:12<k):G (w++ [(d,k)]) n=false:=by
 rw[pc];cases O:iL d with
 |false=>simp
 |true=>
  have:=PL O;have e:decide (k+dp d<=13)=false:=uf ()
  rw[e];simp
def Sf {w:oj (D×Nat)}{d:D}{k:Nat}(h:600<n+sz d):G (w++ [(d,k)]) n=false:=by
 rw[pc];have e:decide (n+(wSz w+sz d)<=600)=false:=uf ()
 rw[e];simp
def Se {w:oj (D×Nat)}{xs:oj D}{k:Nat}(h:600<n+1):G (w++ [(.tup xs,k)]) n=false:=Sf (by simp![sz];omega)
def Lf (xs:oj D)(k:Nat):wOk (xs.map λx=>(x,k+1))=(goodL xs&&xs.all λx=>decide (k+1+dp x<=13)):=by
 induction xs with
 |nil=>rfl
 |cons x r O=>
  simp![uB,wOk,vq,goodL] at O⊢;rw[O];cases iL x<;>cases decide (k+1+dp x<=13)<;>cases goodL r<;>simp
def Le (xs:oj D)(k:Nat):wSz (xs.map λx=>(x,k+1))=szL xs:=by
 unfold wSz;rw[uU]
 congr 1
 induction xs with
 |nil=>rfl
 |cons x r O=>simp![uB,O];rfl
def AaE {w:oj (D×Nat)}{xs:oj D}{k:Nat}(U:↑xs<=40)(hk:k<=12):G (w++ [(.tup xs,k)]) n=G (w++xs.map λx=>(x,k+1)) (n+1):=by
 rw[pc];unfold G;have Z:wOk (w++xs.map λx=>(x,k+1))=(wOk w&&wOk (xs.map λx=>(x,k+1))):=by unfold wOk;rw[UE]
 have e2:wSz (w++xs.map λx=>(x,k+1))=wSz w+szL xs:=by
  have:=Le xs k;unfold wSz at this⊢;rw[uz,X0,this]
 have e3:decide (k+dp (.tup xs)<=13)=xs.all λx=>decide (k+1+dp x<=13):=by
  have q:=wm (k:=12-k) xs;have e0:dp (.tup xs)=1+dpL xs:=by simp![dp]
  rw[e0,vH];constructor
  ·intro h;have h:=uu h;refine List.all_eq_true.mpr λx O=>ud ?_;have h2:=q.mp () x O
   omega
  ·intro h;refine ud ?_;have h2:=q.mpr λx O=>by
    have h3:=uu (List.all_eq_true.mp h x O);omega
   omega
 rw[Z,e2,e3,Lf];have e4:iL (.tup xs)=goodL xs:=by simp![iL,ud U,HK]
 have e5:decide (n+(wSz w+sz (.tup xs))<=600)=decide (n+1+(wSz w+szL xs)<=600):=by
  rw[uX];simp![sz];omega
 rw[e4,e5]
variable {z:Str}
def AaF {w:oj (D×Nat)}{k:Nat}(O:Qs z=v_)(hk:k<=12):G (w++ [(.str z,k)]) n=G w (n+(1+↑z)):=by
 rw[pc];unfold G;have U:iL (.str z)=true:=by simp![iL,O]
 have Z:decide (k+dp (.str z)<=13)=true:=ud (by simp![dp];omega)
 have e5:decide (n+(wSz w+sz (.str z))<=600)=decide (n+(1+↑z)+wSz w<=600):=by
  rw[uX];simp![sz];omega
 rw[U,Z,e5];simp
end L2
namespace AwZ
open PySem PyProof.Rows
open PySem.AutoSeq1 (wpAny_loadPart')
section
variable {prog:o9}{w:og}{A:oh}{E:o6->o7->Prop}{s:o7}
def SB {j t:o3}{i:Nat}{its:Array o6}{x:o6}{Q:o6->o7->Prop}(U:s.heap.IsTupleIter j t i)(gt:s.heap.IsTuple t its)(gx:its[i]? =u_ x)
  (q:∀h2,h2.IsTupleIter j t (i+1)->Gn j s.heap h2->Q x {s with heap:=h2}):UU #[w,w] A (VT (.ref j)) Q E s:=by
 erw[id U,u,O,cu,du];erw[gt,ut,Z,_,nt,aa];unfold VT;refine A7 (vz (name:=gU "__next__") U.typeIs vR
  (vT vR U.typeIs F.entry_tuple_iterator_next ?_ (F.args_tuple_iterator_next_1 _)))
 show UU _ _ (VO (.ref j) 0>>=_) _ _ s;refine A7 (vy O du (x:= .ref t) rfl ?_);show UU _ _ (if(UZ t==Vy)=v_ then _ else _) _ _ s
 rw[A4 (show¬(UZ t==Vy)=v_ from uc)]
 show UU _ _ (VO (.ref j) 1>>=_) _ _ s;refine A7 (vy O du (x:= .int i 0) rfl ?_);show UU _ _ (HW (.ref t)>>=_) _ _ s;refine A7 (U6 Z aa ?_);simp![T2,gx];refine A7 (F0 O du (by simp) (uF [x:1:uF (q _ ?_ (TF ..))]))
 exact⟨_,Tb _ O (Obj.isFreed_of_fields (FG du _)),(Obj.cls_mapFields ..).trans cu,by rw[FG du];simp[VF]⟩
def BH {j t:o3}{i:Nat}{its:Array o6}{Q:o6->o7->Prop}(hh:A.handled=US)(O:s.heap.IsTupleIter j t i)(gt:s.heap.IsTuple t its)(gx:its[i]? =US)
  (q:∀h2 e,Heap.ExtBut j s.heap h2->(∃u,h2.get? e=u_ u/\u.cls= .type "StopIteration")->E (.ref e) {s with heap:=h2}):UU #[w,w] A (VT (.ref j)) Q E s:=by
 erw[id O,u,U,cu,du];erw[gt,ut,Z,_,nt,aa];unfold VT;refine A7 (vz (name:=gU "__next__") O.typeIs vR
  (vT vR O.typeIs F.entry_tuple_iterator_next ?_ (F.args_tuple_iterator_next_1 _)))
 show UU _ _ (VO (.ref j) 0>>=_) _ _ s;refine A7 (vy U du (x:= .ref t) rfl ?_);show UU _ _ (if(UZ t==Vy)=v_ then _ else _) _ _ s
 rw[A4 (show¬(UZ t==Vy)=v_ from uc)]
 show UU _ _ (VO (.ref j) 1>>=_) _ _ s;refine A7 (vy U du (x:= .int i 0) rfl ?_);show UU _ _ (HW (.ref t)>>=_) _ _ s;refine A7 (U6 Z aa ?_);simp![T2,gx];refine A7 (UI (A7 (F0 U du (by simp) ?_)))
 show UU _ _ (newExc (.type "StopIteration") []>>=_) _ _ _;refine A7 ?_;simp![newExc,newTuple];refine A7 (vw ?_ (by size_fits))
 refine A7 (m:=tT _ _) (R8 (a:=Vy) (by first|rfl|(simp![tT];rfl)) ?_)
 refine vw ?_ (by size_fits)
 simp![raiseNew];refine A7 (wpAny_handled ?_)
 first|rw[show A.in1.handled=US from hh]|rw[hh]
 refine A7 (uF (TM ?_));exact q _ _ (((TF ..).extBut.push _).push _) [_:uJ _ rfl:1]
structure Apt (z p r i j a b:o3):Prop where
 pz:p≠z
 rz:r≠z
 iz:i≠z
 jz:j≠z
 pr:p≠r
 pi:p≠i
 pj:p≠j
 ri:r≠i
 rj:r≠j
 ij:i≠j
 az:a≠z
 ar:a≠r
 ai:a≠i
 aj:a≠j
 bz:b≠z
 br:b≠r
 bi:b≠i
 bj:b≠j
def Sr {z p r i j a b:o3}{k:Nat}{xs ys:Array o6}{x y u v:o6}{Q:o6->o7->Prop}(D:Apt z p r i j a b)
  (Z:Vk s.heap z p r .none) (hp:V7 s.heap p (.ref i) (.ref j)) (hr:V7 s.heap r u v)
  (hi:s.heap.IsTupleIter i a k) (hj:s.heap.IsListIter j b k) (ha:s.heap.IsTuple a xs) (hb:s.heap.IsList b ys) (hx:xs[k]? =u_ x) (hy:ys[k]? =u_ y)
  (q:∀h2,Vk h2 z p r (VF #[0,s])->V7 h2 r x y->h2.IsTupleIter i a (k+1)->h2.IsListIter j b (k+1)->V7 h2 #[0,s] x y->h2.objs.size=#[0,s]+1->
   (∀c o,c≠z->c≠r->c≠i->c≠j->s.heap.get? c=u_ o->h2.get? c=u_ o)->Q (.ref #[0,s]) {s with heap:=h2}):
  UU #[w,w] A (g_.«zip.__next__» [[.ref z]:[]]) (λfin t=>∃v,fin= .done (.ret v)/\Q v t) E s:=by
 show UU _ _ (VO (.ref z) 2>>=_) _ _ _;refine A7 (vy Z rfl (x:= .bool UT) rfl ?_);show UU _ _ (VO (.ref z) 3>>=_) _ _ _;refine A7 (vy Z rfl (x:= .ref p) rfl ?_);refine A7 (U6 hp rfl ?_);show UU _ _ (GO (.ref z)>>=_) _ _ s;refine A7 ?_;unfold GO;refine A7 (vy Z rfl (x:= .none) rfl (uF ?_));simp![if_true];refine A7 (UI ?_);refine A7 (vy Z rfl (x:= .ref r) rfl ?_);refine A7 (Ud Z (by simp) λh1 z1 s1=>?_)
 replace z1:Vk h1 z p r .ellipsis:=z1
 refine A7 ?_;simp![rF,Fp,Uh,Ti];refine A7 (A7 (Hw ?_));show UU _ _ (VT (.ref i)>>=_) _ _ _;refine A7 (SB (hi.extBut s1.extBut D.iz) (ha.extBut s1.extBut D.az) hx λh2 i2 s2=>uF ?_);have r2:V7 h2 r u v:=s2.extBut _ _ D.ri (s1.extBut _ _ D.rz hr);refine A7 (U6 r2 rfl ?_);refine A7 (TR r2 λh3 r3 U=>?_)
 replace r3:V7 h3 r x v:=r3
 refine A7 (TL (uF ?_));refine A7 (A7 (Hw ?_));show UU _ _ (VT (.ref j)>>=_) _ _ _;refine A7 (wpAny_nextOf_list_item (((hj.extBut s1.extBut D.jz).extBut s2.extBut D.ij.symm).extBut U.extBut D.rj.symm)
  (((hb.extBut s1.extBut D.bz).extBut s2.extBut D.bi).extBut U.extBut D.br) hy λh4 j4 s4=>uF ?_)
 have r4:V7 h4 r x v:=s4.extBut _ _ D.rj r3;refine A7 (U6 r4 rfl ?_);refine A7 (TR r4 λh5 r5 s5=>?_)
 replace r5:V7 h5 r x y:=r5
 refine A7 (TL (uF (uF ?_)));refine A7 (U6 r5 rfl ?_);refine A7 (wpAny_newTuple ?_);have sz:h5.objs.size=#[0,s]:=by rw[s5.1,s4.1,U.1,s2.1,s1.1]
 have z5:Vk h5 z p r .ellipsis:=s5.extBut _ _ D.rz.symm (s4.extBut _ _ D.jz.symm (U.extBut _ _ D.rz.symm (s2.extBut _ _ D.iz.symm z1)));have k5:∀c o,c≠z->c≠r->c≠i->c≠j->s.heap.get? c=u_ o->h5.get? c=u_ o:=λc o O c2 c3 c4 e=>
  s5.extBut _ _ c2 (s4.extBut _ _ c4 (U.extBut _ _ c2 (s2.extBut _ _ c3 (s1.extBut _ _ O e))))
 have i5:h5.IsTupleIter i a (k+1):=((i2.extBut U.extBut D.ri.symm).extBut s4.extBut D.ij).extBut s5.extBut D.ri.symm;have j5:h5.IsListIter j b (k+1):=j4.extBut s5.extBut D.rj.symm;have aa:z<h5.objs.size:=uI z5;show UU _ _ (rQ (.ref z) (.ref h5.objs.size)>>=_) _ _ _;refine A7 ?_;unfold rQ;have z6:Vk (h5.push {cls:= .type "tuple",data:= .seq #[x,y]}) z p r .ellipsis:=ug _ z5;refine A7 (Ud z6 (by simp) λh7 z7 s7=>?_)
 replace z7:Vk h7 z p r (VF h5.objs.size):=z7
 refine Ud z7 (by simp) λh8 z8 s8=>?_
 replace z8:Vk h8 z p r (VF h5.objs.size):=z8
 have up:∀c o,c≠z->h5.get? c=u_ o->h8.get? c=u_ o:=λc o O e=>s8.extBut _ _ O (s7.extBut _ _ O (ug _ e));have t8:V7 h8 h5.objs.size x y:=s8.extBut _ _ (Ug aa) (s7.extBut _ _ (Ug aa) (uJ _ rfl));have n8:h8.objs.size=h5.objs.size+1:=by rw[s8.1,s7.1,vn]
 rw[sz] at z8 t8 n8;refine uF [0:?_];show Q (.ref h5.objs.size) _;rw[sz];exact q h8 z8 (up _ _ D.rz r5) (by erw[i5,o,e,g];exact[o:up _ o D.iz e:g]) (j5.at λo e=>up _ o D.jz e) t8 n8 λc o O c2 c3 c4 e=>up c o O (k5 c o O c2 c3 c4 e)
def zip_go {z p r i j a b:o3}{k:Nat}{xs ys:Array o6}{x y u v:o6}{Q:om o6->o7->Prop}(D:Apt z p r i j a b)
  (O:Vk s.heap z p r .none) (Z:V7 s.heap p (.ref i) (.ref j)) (hr:V7 s.heap r u v)
  (hi:s.heap.IsTupleIter i a k) (hj:s.heap.IsListIter j b k) (ha:s.heap.IsTuple a xs) (hb:s.heap.IsList b ys) (hx:xs[k]? =u_ x) (hy:ys[k]? =u_ y)
  (q:∀h2,Vk h2 z p r (VF #[0,s])->V7 h2 r x y->h2.IsTupleIter i a (k+1)->h2.IsListIter j b (k+1)->V7 h2 #[0,s] x y->h2.objs.size=#[0,s]+1->
   (∀c o,c≠z->c≠r->c≠i->c≠j->s.heap.get? c=u_ o->h2.get? c=u_ o)->Q (u_ (.ref #[0,s])) {s with heap:=h2}):
  UU #[w,w] A (VC (.ref z)) Q E s:=by
 have U:s.TypeIs (.ref z) "zip":=[_:O:1];unfold VC;exact A7 (GQ (vz (name:=gU "__next__") U F.slot_zip_next
  (vT F.slot_zip_next U F.entry_zip_next (Sr D O Z hr hi hj ha hb hx hy λh2 b1 b2 b3 b4 b5 b6 b7=>uF (q h2 b1 b2 b3 b4 b5 b6 b7)) (F.args_zip_next_1 _))))
def zip_stop {z p r i j a b:o3}{k:Nat}{xs:Array o6}{Q:om o6->o7->Prop}(hh:A.handled=US)(D:Apt z p r i j a b)
  (O:Vk s.heap z p r .none) (hp:V7 s.heap p (.ref i) (.ref j)) (hi:s.heap.IsTupleIter i a k) (ha:s.heap.IsTuple a xs) (hx:xs[k]? =US)
  (q:∀h2,(∀c o,c≠z->c≠r->c≠i->c≠j->s.heap.get? c=u_ o->h2.get? c=u_ o)->Q US {s with heap:=h2}):UU #[w,w] A (VC (.ref z)) Q E s:=by
 have tz:s.TypeIs (.ref z) "zip":=[_:O:1];unfold VC;refine A7 (GQ (vz (name:=gU "__next__") tz F.slot_zip_next
  (vT F.slot_zip_next tz F.entry_zip_next ?_ (F.args_zip_next_1 _))))
 show UU _ _ (VO (.ref z) 2>>=_) _ _ _;refine A7 (vy O rfl (x:= .bool UT) rfl ?_);show UU _ _ (VO (.ref z) 3>>=_) _ _ _;refine A7 (vy O rfl (x:= .ref p) rfl ?_);refine A7 (U6 hp rfl ?_);show UU _ _ (GO (.ref z)>>=_) _ _ s;refine A7 ?_;unfold GO;refine A7 (vy O rfl (x:= .none) rfl (uF ?_));simp![if_true];refine A7 (UI ?_);refine A7 (vy O rfl (x:= .ref r) rfl ?_);refine A7 (Ud O (by simp) λh1 U s1=>?_)
 replace U:Vk h1 z p r .ellipsis:=U
 refine A7 ?_;simp![rF,Fp,Uh,Ti];refine A7 (A7 (Hw ?_));show UU _ _ (VT (.ref i)>>=_) _ _ _;refine A7 (BH hh (hi.extBut s1.extBut D.iz) (ha.extBut s1.extBut D.az) hx λh2 e s2 he=>?_);erw[he,oe,Z,ce];have z2:Vk h2 z p r .ellipsis:=s2 _ _ D.iz.symm U;have ez:e≠z:=λx=>by subst x;rw[z2] at Z;cases Z;simp at ce
 refine Ud z2 (by simp) λh3 _ s3=>?_
 refine A7 (UO (T:="StopIteration") (b:=v_) [oe:s3.extBut _ _ ez Z:ce] isSubtype_stop ?_);exact uF (q _ λc o c1 _ c3 _ x=>s3.extBut _ _ c1 (s2 _ _ c3 (s1.extBut _ _ c1 x)))
noncomputable abbrev q1 (h:o8)(a:o3):o8:=h.push {cls:= .type "tuple_iterator",data:= .fields #[.ref a,.int 0 0]}
noncomputable abbrev q2 (h:o8)(a b:o3):o8:=(q1 h a).push {cls:= .type "list_iterator",data:= .fields #[.ref b,.int 0 0]}
noncomputable abbrev q3 (h:o8)(a b:o3):o8:=(q2 h a b).push {cls:= .type "tuple",data:= .seq #[.ref h.objs.size,.ref (q1 h a).objs.size]}
noncomputable abbrev q4 (h:o8)(a b:o3):o8:=(q3 h a b).push {cls:= .type "tuple",data:= .seq #[.none,.none]}
noncomputable abbrev q5 (h:o8)(a b:o3):o8:=(q4 h a b).push {cls:= .type "zip",data:= .fields #[.none,.bool UT,.bool UT,.ref (q2 h a b).objs.size,.ref (q3 h a b).objs.size]}
def Ej (a b:o3)(xs ys:Array o6):Meets (g_.«zip.__new__» [[.type "zip",.ref a,.ref b]:[]]) (λ_ R s=>s.heap.IsTuple a xs/\s.heap.IsList b ys/\R (.ok (.ret (.ref (q4 s.heap a b).objs.size))) {s with heap:=q5 s.heap a b}):=
 .of_wp λprog w A R s h=>by
  erw[s,O,g,d,tk,os];erw[h,ha,U,h];have sub:=sub_zip;have h1:Heap.IsTuple (rG ⟨O,g,d,tk,os⟩) a xs:=ha;have h2:Heap.IsList (rG ⟨O.push {cls:= .type "tuple_iterator",data:= .fields #[.ref a,.int 0 0]},g,d,tk,os⟩) b ys:=Ry U _
  wp_walk using Hy h1,UH h2
  exact[0:h]
def zip_call {a b:o3}{xs ys:Array o6}{Q:o6->o7->Prop}(ha:s.heap.IsTuple a xs)(hb:s.heap.IsList b ys)
  (h:∀h2,Vk h2 (#[0,s]+4) (#[0,s]+2) (#[0,s]+3) .none->V7 h2 (#[0,s]+2) (.ref #[0,s]) (.ref (#[0,s]+1))->
   V7 h2 (#[0,s]+3) .none .none->h2.IsTupleIter #[0,s] a 0->h2.IsListIter (#[0,s]+1) b 0->h2.objs.size=#[0,s]+5->
   (∀c o,s.heap.get? c=u_ o->h2.get? c=u_ o)->Q (.ref (#[0,s]+4)) {s with heap:=h2}):UU #[w,w] A (call (.type "zip") [.ref a,.ref b]) Q E s:=by
 refine callType_new F.called_zip () (F.typeCall_zip_2 _ _) (F.newCall_zip_2 _ _) (λobj=>F.args_object_init_3 obj _ _) F.entry_zip_new (Ej a b xs ys) [ha:hb:?_]
 have O:(q1 s.heap a).objs.size=#[0,s]+1:=vn ..;have U:(q2 s.heap a b).objs.size=#[0,s]+2:=by rw[vn,O]
 have Z:(q3 s.heap a b).objs.size=#[0,s]+3:=by rw[vn,U]
 have z4:(q4 s.heap a b).objs.size=#[0,s]+4:=by rw[vn,Z]
 have z5:(q5 s.heap a b).objs.size=#[0,s]+5:=by rw[vn,z4]
 have g5:(q5 s.heap a b).get? (q4 s.heap a b).objs.size=u_ _:=uJ _ rfl;have g4:(q5 s.heap a b).get? (q3 s.heap a b).objs.size=u_ _:=ug _ (uJ _ rfl);have g3:(q5 s.heap a b).get? (q2 s.heap a b).objs.size=u_ _:=ug _ (ug _ (uJ _ rfl));have g2:(q5 s.heap a b).get? (q1 s.heap a).objs.size=u_ _:=ug _ (ug _ (ug _ (uJ _ rfl)));have g1:(q5 s.heap a b).get? #[0,s]=u_ _:=ug _ (ug _ (ug _ (ug _ (uJ _ rfl))));show _/\_;rw[U,Z,z4] at g5;rw[O,U] at g3;rw[Z] at g4;rw[O] at g2;rw[z4];exact[[_:g5:1]:h _ g5 g3 g4 ⟨_,g1,1,1⟩ ⟨_,g2,1,1⟩ z5 λc o x=>ug _ (ug _ (ug _ (ug _ (ug _ x))))]
end
end AwZ
namespace L2
open PySem PySem.Spec PyProof.Rows
nonrec def Its (x:Str):It:=⟨λi _=>i<x.cps.size,λi H v H'=>H'=H/\∃c,x.cps[i]? =u_ c/\v= .str ⟨#[c]⟩,λi _=>i=x.cps.size⟩
variable {w:og}{K:o0}{tg:Expr}{x:Str}
def sN {P:o9}{t:Tok}{it:o3}(ty:String)(O:ty="str_ascii_iterator"∨ty="str_iterator"):
  NI P w K tg (Its x) [it] it (λi h=>h.IsStrIter it ty x t i) where
 mem:=by simp
 obj:=λi h st b U=>by
  have e:b=it:=by simpa using U
  subst e;erw[st,o,e,c,d];exact⟨o,e,λv z=>by rw[d] at z;cases z⟩
 keep:=λi h h' st k=>by
  erw[st,o,e,r];exact⟨o,k it (by simp) o e,r⟩
 item:=by
  intro X hP hw hK Z i oq s σ H E I hf st hg;subst hP hw hK;obtain⟨f0,f1,f2,f3,f4,f5⟩:=hf it (by simp)
  have W:Walks X.prog X.w X.A it [it] [it] x.cps.size (SignAt x) (λi h=>h.IsStrIter it ty x t i):=by
   rcases O with rfl|rfl
   ·exact rT (I.ok.hd Z) it x t
   ·exact TX (I.ok.hd Z) it x t
  refine v9 (n:=1) I.tk (W.item i s _ _ hg st λv h' tk hv aa kk=>?_);intro htk;erw[hv,c,u,hx,rfl];have I1:Inv X oq σ H {s with heap:=h',toks:=tk}:=I.turned (λb o U e=>kk b o (by simpa using U) e) f0 f1 f3 f4 f5
  erw[id aa,o,e,c',d];refine⟨0,DA (s:={s with heap:=h',toks:=tk}) e c' d (by rcases O with rfl|rfl<;>decide) ⟨.str ⟨#[c]⟩,H,I1,[u:1],⟨1,c,hx,1⟩,aa,λb U=>(hf b U).1⟩⟩
 done:=by
  intro X hP hw hK Z i oq s σ H E I hf st hg;subst hP hw hK;have ac:i=x.cps.size:=hg;subst ac;obtain⟨f0,f1,f2,f3,f4,f5⟩:=hf it (by simp)
  have W:Walks X.prog X.w X.A it [it] [it] x.cps.size (SignAt x) (λi h=>h.IsStrIter it ty x t i):=by
   rcases O with rfl|rfl
   ·exact rT (I.ok.hd Z) it x t
   ·exact TX (I.ok.hd Z) it x t
  exact v9 (n:=1) I.tk (W.done s _ _ st λh' tk kk htk=>⟨1,I.turned (λb o U e=>kk b o (by simpa using U) e) f0 f1 f3 f4 f5⟩)
 self:=λ_ _ _ _ _ st h=>by
  rcases O with rfl|rfl
  ·exact wpAny_pyIter_striter_ascii st h
  ·exact wpAny_pyIter_striter_wide st h
section
variable {X:Cx}{tg:Expr}
inductive AaD (R:(It->Hp->Prop))(x:V)(H1:Hp):Prop
 |mk (z:_)(_:x= .str z)(_:R (Its z) H1)
nonrec def Abu (tl:TE):TI:=λσ H R=>tl σ H λx H1=>AaD R x H1
def Km {l:Expr}{tl:TE}(U:PE X l tl):PI X tg l (Abu tl):=by
 exists 2,R,I,h;refine thn (U oq s σ H _ I h) λv s1 zq=>?_;erw[zq,x,H1,O,Z,q1];erw[q1,z,e,q];subst e;erw[Z,t,rfl];have fp:∀(o:Obj),∀b∈ [#[0,s1]],sK X oq H1 b:=λo b hb=>by
  have e:b=#[0,s1]:=by simpa using hb
  subst e;exact O.fpOk (uj _) (O.hok.fresh (uj _))
 cases ha:z.cps.all (·<128)
 ·refine wpAny_pyIter_wide ha ?_;exact⟨#[0,s1],[#[0,s1]],_,_,H1,1,O.kept (t':=s1.toks) λb o e=>ug _ e,sN "str_iterator" (.inr rfl),⟨_,uJ _ rfl,1,1⟩,fp default,q⟩
 ·refine wpAny_pyIter_ascii ha ?_;exact⟨#[0,s1],[#[0,s1]],_,_,H1,1,O.kept (t':=s1.toks) λb o e=>ug _ e,sN "str_ascii_iterator" (.inl rfl),⟨_,uJ _ rfl,1,1⟩,fp default,q⟩
inductive AaN (x:V)(lo:Option Int)(hi:Option Int)(H:Hp)(Q:VK):Prop
 |mk (z:_)(_:x= .str z)(_:↑z<=UX)(_:Q (.str (GX z lo hi)) H)
nonrec def AU:o6->om (Int×Tok)
 | .int i t=>u_ (i,t)
 |_=>US
def OB:SlR X AaN:=by
 exists 2,x,v,O,U,lo,hi,sl,Q,I,rx,hs,pl,pu,h;erw[h,z,rfl,hz,q];erw[rx,t,rfl];exists "str",_,F.slot_str_getitem.lookup,vJ _ _ _;have Z:O=partValue (AU O)/\lo=(AU O).map (·.1):=by cases pl<;>exact[1:1]
 have hu:U=partValue (AU U)/\hi=(AU U).map (·.1):=by cases pu<;>exact[1:1]
 erw[hs,o,e1,e2,e3];refine v9 (n:=1) I.tk ?_;refine wpAny_getItem_str_slice (l:=AU O) (u:=AU U) (st:=US) ⟨o,e1,e2,by rw[e3,<-Z.1,<-hu.1];rfl⟩ rfl ?_
 refine post_val_or_str [?_:λt' k=>?_]
 ·exact uQ (rR z _ _) hz
 ·intro htk;exact⟨.str (GX z lo hi),H,I.tok k,⟨t',by rw[Z.2,hu.2];rfl⟩,q⟩
def qV {K:o0}(U:X.K=K):YN X (.builtin "isinstance") (λxs H Q=>∃x T t b,xs= [x,.ty T]/\AR K H x t/\PySem.W.kitOne K t (.type T)=u_ b/\Q (.bl b) H):=by
 exists 2,xs,us,Q,I,r,h;erw[h,x,T,t,b,rfl,ty,e,q];erw[BE r,u,Z,rfl,ru,O];cases O;subst U;exact v9 (n:=1) I.tk (Dq I ru ty e λtk htk=>⟨.bl b,H,I.tok tk,1,q⟩)
def oZ:∀bs:oj Bool,(V1 ↑bs).all (λi=>bs.getD i v_)=bs.all id
 | []=>rfl
 |b::r=>by
  rw[um,T7,vq,Uw,vq];have e:(V1 ↑r).all ((λi=>(b::r).getD i v_)∘tX)=(V1 ↑r).all λi=>r.getD i true:=by
   congr 1
  rw[e,oZ r]
  rfl
def Zs (hc:X.calm=v_):YN X (.builtin "all") (λxs H Q=>∃(p:o3) (bs:oj Bool),xs= [.ref p]/\SqL X.K H p (bs.map V.bl)/\Q (.bl (bs.all id)) H):=by
 exists 2,xs,us,Q,I,r,h;erw[h,p,bs,rfl,hp,q];erw[Xq r,u,rfl,ru];cases ru;erw[I.list hp,its,rv,pl,hz];have aa:p<#[0,s]:=by erw[pl,o,n,e,_];exact uI e
 refine v9 (n:=1) I.tk ?_;refine call_all_walk (UH pl.isList ?_);have up:∀b o,s.heap.get? b=u_ o->(s.heap.push {cls:= .type "list_iterator",data:= .fields #[.ref p,.int 0 0]}).get? b=u_ o:=λb o e=>ug _ e;have hl:↑its=↑bs:=by have:=↑rv;simpa using this.symm
 exists #[0,s],_,_,_,_,_,λi=>bs.getD i v_,1,Walks.list (show X.A.in1.handled=US from I.ok.hd hc) #[0,s] p (uR aa) its.toArray,[⟨_,uJ _ rfl,1,1⟩:pl.isList.push _],?_,?_
 ·intro i v s' Q' E' hv hQ;have O:its[i]? =u_ v:=by simpa using hv
  have hi:i<↑its:=(Af.mp O).1;obtain⟨u,e1,e2⟩:=rv.get (i:=i) (x:= .bl (bs[i]'())) (by simp[show i<bs.length by omega])
  rw[O] at e1;cases e1;cases e2;have:bs.getD i v_=bs[i]'():=by simp[Vx,show i<bs.length by omega]
  have U:Q' (bs.getD i v_) s':=hQ;rw[this] at U;exact vv U
 ·intro h' tk kk htk;have Z:(V1 its.toArray.size).all (λi=>bs.getD i v_)=bs.all id:=by
   rw[uw,hl];exact oZ bs
  rw[Z];have I1:=I.kept (t':=s.toks) (h':=s.heap.push {cls:= .type "list_iterator",data:= .fields #[.ref p,.int 0 0]}) up;have ac:=I.fpOk (uj _) (I.hok.fresh (uj #[0,s]));erw[ac,f0,f1,f2,f3,f4,f5];exact⟨.bl (bs.all id),H,I1.turned (it:=#[0,s]) (λb o hb e=>kk b o (by simpa using hb) e) f0 f1 f3 f4 f5,1,q⟩
end
section
variable {X:Cx}
def kJ {x:Str}{i:Int}{pos:Pos}(O:Gl X x)(hm:∃t,X.mg x=u_ (.int i t))(hd:(x==("__debug__":Str))=UT):PE X (.Name x pos) (tC (.int i)):=by
 erw[hm,t,hm];exact pJ O hm [t:1] hd
def OS {x z:Str}{pos:Pos}(O:Gl X x)(hm:∃t,X.mg x=u_ (.str z t))(hd:(x==("__debug__":Str))=UT):PE X (.Name x pos) (tC (.str z)):=by
 erw[hm,t,hm];exact pJ O hm [t:1] hd
def pe_gR {x:Str}{a:o3}{pos:Pos}(O:Gl X x)(hm:X.mg x=u_ (.ref a))(hd:(x==("__debug__":Str))=UT):PE X (.Name x pos) (tC (.ref a)):=pJ O hm rfl hd
end
variable {H:Hp}{p:o3}
def qf (h:H p=US)(o:HO):ic H (upd H p o):=λb u q=>by rw[qk (ql q h)];exact q
nonrec def iR (p:o3)(H H':Hp):Prop:=∀b o,H b=u_ o->b≠p->H' b=u_ o
def iR.refl (p:o3)(H:Hp):iR p H H:=λ_ _ h _=>h
variable {H1 H2:Hp}
def iR.trans (a:iR p H H1)(b:iR p H1 H2):iR p H H2:=λc o h n=>b c o (a c o h n) n
def iR.upd (p:o3)(H:Hp)(o:HO):iR p H (L2.upd H p o):=λb u h n=>by rw[qk n];exact h
variable {H':Hp}
def iR.same (k:iR p H1 H')(s:ic H H1)(n:H p=US):ic H H':=λb o h=>k b o (s b o h) (ql h n)
variable {i:Int}
def yZ {α:Type}{xs:oj α}(h0:0<=i)(h1:i<↑xs):∃c,atI xs i=u_ c:=by
 obtain⟨n,rfl⟩:∃n:Nat,i=(n:Int):=[i.toNat:()]
 have hn:n<↑xs:=by omega
 exact[xs[n]:qU (uq hn)]
nonrec def mR (cells:oj (Str×o3)):oj (Str×Vp)->oj (Str×o3)->oj (Str×o3)
 | [],cs=>cs
 |(n,k)::r,cs=>mR cells r (if k== .free then(match cells.lookup n with|some a=>(n,a)::cs|none=>cs) else cs)
def WZ {cells:oj (Str×o3)}:∀{names:oj (Str×Vp)}{cs:oj (Str×o3)},(∀y c,cs.lookup y=u_ c->cells.lookup y=u_ c)->∀y c,(mR cells names cs).lookup y=u_ c->cells.lookup y=u_ c
 | [],_,h=>h
 |(n,k)::r,cs,h=>by
  unfold mR;refine WZ λy c e=>?_;split at e
  ·split at e
   ·rename_i a ha
    rw[ve] at e;split at e
    ·rename_i U
     have O:y=n:=beq_iff_eq.mp U;subst O;cases e;exact ha
    ·exact h y c e
   ·exact h y c e
  ·exact h y c e
def oQ {cells:oj (Str×o3)}:∀{names:oj (Str×Vp)}{cs:oj (Str×o3)}{y:Str},(∃c,cs.lookup y=u_ c)->∃c,(mR cells names cs).lookup y=u_ c
 | [],_,_,h=>h
 |(n,k)::r,cs,y,h=>by
  unfold mR;refine oQ ?_;split
  ·split
   ·rw[ve];split
    ·exact⟨0⟩
    ·exact h
   ·exact h
  ·exact h
def kA {cells:oj (Str×o3)}:∀{names:oj (Str×Vp)}{cs:oj (Str×o3)}{y:Str},(y,Vb)∈names->(∃c,cells.lookup y=u_ c)->∃c,(mR cells names cs).lookup y=u_ c
 | [],_,_,h,_=>nomatch h
 |(n,k)::r,cs,y,h,O=>by
  unfold mR;rcases Aa.mp h with e|h
  ·cases e;refine oQ ?_;erw[O,c,O];rw[A6 (),O]
   exact⟨c,by simp[ve]⟩
  ·exact kA h O
def zr {env:Env}:∀{names:oj (Str×Vp)}{cs:oj (Str×o3)},(∀y,(y,Vb)∈names->∃c,env.cells.lookup y=u_ c)->
  (Vu names cs λx r=>(do
   if x.2== .free then
    let a<-GK env x.1
    pure (G6 ((x.1,a)::r))
   else pure (G6 r):Sem (ForInStep (oj (Str×o3)))))=(pure (mR env.cells names cs):Sem (oj (Str×o3)))
 | [],cs,_=>rfl
 |(n,k)::r,cs,h=>by
  rw[Uh];have Z:∀y,(y,Vb)∈r->∃c,env.cells.lookup y=u_ c:=λy hy=>h y (uh _ hy);unfold mR;by_cases O:(k==Vb)=v_
  ·have U:k= .free:=by simpa using O
   subst U;erw[h n ui,c,hc];have e:GK env n=pure c:=by unfold GK;rw[hc]
   simp![O,if_true,e,hc,T6];exact zr Z
  ·simp![A4 O,T6];exact zr Z
def Wg {scope:V9}{env:Env}(h:∀y,(y,Vb)∈scope.names->∃c,env.cells.lookup y=u_ c):GS scope env=pure (mR env.cells scope.names []):=by
 unfold GS;have q:=zr (cs:= []) h;show(Vu scope.names ([]:oj (Str×o3)) (λx r=>(do
   if x.2== .free then
    let a<-GK env x.1
    pure (G6 ((x.1,a)::r))
   else pure (G6 r):Sem (ForInStep (oj (Str×o3)))))>>=λcs=>pure cs)=_
 rw[q,T6]
def zN {env:Env}(hf:env.scope.kind= .function):∀{names:oj (Str×Vp)}{x:Str},names.lookup x=u_ .free->env.kindOf x=u_ .cell->
  (names.map λ(n,k)=>if(k==Vb&&env.scope.kind== .function&&env.kindOf n==u_ .cell) then(n,VH) else(n,k)).lookup x=u_ .cell
 | [],_,h,_=>by simp at h
 |(n,k)::r,x,h,hc=>by
  have ih:= @zN env hf r x;show Vg x ((if(k==Vb&&env.scope.kind== .function&&env.kindOf n==u_ .cell)=v_ then(n,VH) else(n,k))::_)=_
  cases O:x==n with
  |true=>
   simp![ve,O] at h;cases h;have Z:x=n:=beq_iff_eq.mp O;subst Z;rw[A6 (by rw[hf,hc];rfl)]
   simp[ve]
  |false=>
   simp![ve,O] at h;by_cases U:(k==Vb&&env.scope.kind== .function&&env.kindOf n==u_ .cell)=v_
   ·rw[A6 U];simp![ve,O];exact ih h hc
   ·rw[A4 U];simp![ve,O];exact ih h hc
def wJ {env:Env}:∀{names:oj (Str×Vp)}{x:Str},(∀y∈names,y.2≠ .cell)->
  ((names.map λ(n,k)=>if(k==Vb&&env.scope.kind== .function&&env.kindOf n==u_ .cell) then(n,VH) else(n,k)).lookup x=u_ .cell∨
   (names.map λ(n,k)=>if(k==Vb&&env.scope.kind== .function&&env.kindOf n==u_ .cell) then(n,VH) else(n,k)).lookup x=u_ .free)->(x,Vb)∈names
 | [],_,_,h=>by simp at h
 |(n,k)::r,x,hn,h=>by
  have ih:= @wJ env r x (λy hy=>hn y (uh _ hy));have g:Vg x ((if(k==Vb&&env.scope.kind== .function&&env.kindOf n==u_ .cell)=v_ then(n,VH) else(n,k))::(r.map λ(n,k)=>if(k==Vb&&env.scope.kind== .function&&env.kindOf n==u_ .cell) then(n,VH) else(n,k)))=u_ .cell∨
   Vg x ((if(k==Vb&&env.scope.kind== .function&&env.kindOf n==u_ .cell)=v_ then(n,VH) else(n,k))::(r.map λ(n,k)=>if(k==Vb&&env.scope.kind== .function&&env.kindOf n==u_ .cell) then(n,VH) else(n,k)))=u_ .free:=h
  have aa:k≠ .cell:=hn (n,k) ui;by_cases Z:(k==Vb&&env.scope.kind== .function&&env.kindOf n==u_ .cell)=v_
  ·rw[A6 Z] at g;have hk:k= .free:=by
    rw[uC,uC] at Z
    simpa using Z.1.1
   subst hk;cases U:x==n with
   |true=>
    have O:x=n:=beq_iff_eq.mp U;subst O;exact ui
   |false=>
    simp![ve,U] at g;exact uh _ (ih g)
  ·rw[A4 Z] at g;cases U:x==n with
   |true=>
    have O:x=n:=beq_iff_eq.mp U;subst O;simp![ve,U] at g;rcases g with g|g
    ·exact A8 (uL g) aa
    ·rw[show k=Vb from uL g]
     exact ui
   |false=>
    simp![ve,U] at g;exact uh _ (ih g)
noncomputable abbrev blk (X:Cx)(scope:V9)(Nb:oj Str)(cl:oj (Str×o3))(C:o3)(s₀:o7)(H₀:Hp)(fp:oj o3)(pn:oj (o3×Obj)):Cx:=
 {X with N:=Nb,s₀:=s₀,H₀:=H₀,env:=HX scope cl C X.env,outer:=X.stack,ex:=fp,fn:=λ_=>UT,pn:=pn,xe:=λ_ _=>False}
structure LcS (X:Cx)(scope:V9)(Nb:oj Str)(nt:Nat)(fr:oj Nat):Prop where
 kind:scope.kind= .function
 cell:∀y∈scope.names,y.2≠ .cell
 names:∀y∈scope.names,y.2= .local->scope.names.lookup y.1=u_ .local
 free:∀y∈scope.names,y.2= .free->X.env.kindOf y.1=u_ .cell
 len:↑Nb=nt+↑fr
 fr:∀(k j:Nat) (x:Str),fr[k]? =u_ j->Nb[nt+k]? =u_ x->X.N[j]? =u_ x/\scope.names.lookup x=u_ .free
nonrec def LV (nt:Nat)(fr:oj Nat)(σ:St):St:=R6 nt US++fr.map λj=>(σ[j]?).join
section
variable {pr:o9}{wo:og}{ar:oh}{RR:VX->o7->Prop}{st:o7}
noncomputable abbrev nb (pr:o9)(wo:og)(ar:oh)(en:Env)(RR:VX->o7->Prop):o6->o7->Prop:=notedBy (V8 pr wo) ar en λx t=>RR (.error x) t
noncomputable abbrev AaH (en:Env)(cs:oj Expr):Sem Bool:=Vu cs v_ λc b=>if b=v_ then do let y<-isTrue c en (eval c en);pure (G6 y) else pure (G6 b)
def sA {el tg Z:Expr}{cs:oj Expr}{sc:V9}{ps:Pos}{O U:o6}{en:Env}(J:Nat->o7->Prop)
  (aa:∀k t,J k t->UU (V8 pr wo) ar (VC O) (λr t1=>match r with
   |none=>RR (.ok .next) t1
   |some v=>UU (V8 pr wo) ar (GN tg O v) (λ_ t2=>UU (V8 pr wo) ar (VG tg en v) (λ_ t3=>UU (V8 pr wo) ar (AaH en cs) (λb t4=>
     if b=v_ then UU (V8 pr wo) ar (eval el en) (λx t5=>UU (V8 pr wo) ar (call (.builtin "list.append") [U,x]) (λ_ t6=>∃m,m<k/\J m t6) (nb pr wo ar en RR) t5) (nb pr wo ar en RR) t4
     else∃m,m<k/\J m t4) (nb pr wo ar en RR) t3) (nb pr wo ar en RR) t2) (nb pr wo ar en RR) t1) (nb pr wo ar en RR) t)
  (k:Nat) (h0:J k st):Vn (V8 pr wo) ar (.compLoop (.ListComp el [⟨tg,Z,cs,(0)⟩] sc ps) 0 O U en) RR st:=by
 refine codeAny_loop rfl J (λk t hJ=>?_) k h0;show UU _ ar ((compTurn (.ListComp el [⟨tg,Z,cs,(0)⟩] sc ps) 0 O U en).onRaise λx=>do noteFrame x en;theTreesLotGoes x) _ _ t
 rw[compTurn_list];refine wpAny_noted (A7 (GE (A7 (thn (aa k t hJ) λr t1 q1=>?_))));cases r with
 |none=>exact uF q1
 |some v=>
  refine A7 (thn q1 λ_ t2 q2=>A7 (thn q2 λ_ t3 q3=>A7 (thn q3 λb t4 q4=>?_)));cases b with
  |false=>exact uF [1:q4]
  |true=>exact A7 (A7 (thn q4 λx t5 q5=>A7 (thn q5 λ_ t6 q6=>uF (uF [1:q6]))))
end
nonrec def RS (X:Cx)(ifs:oj Expr)(t:TT):Prop:=
 ∀(oq:oj (o3×Obj)) (s:o7) (σ:St) (H:Hp) (Q:Bool->Hp->Prop),#[I]->t σ H Q->UU #[X,X] X.A (AaH X.env ifs) (TP X oq σ Q) X.xe s
nonrec def AW:TT:=λ_ H Q=>Q v_ H
def yM {X:Cx}:RS X [] AW:=λ_ _ _ H _ I h=>wpAny_tests_nil [H:I:h]
def pH {X:Cx}{c:Expr}{t:TT}(h:PT X c t):RS X [c] t:=λoq s σ H Q I O=>wpAny_tests_one (h oq s σ H Q I O)
nonrec def Di (D:o3)(J:It)(g:TG)(tc:TT)(te:TE)(σb:St)(H1:Hp)(Q:VK):Prop:=
 ∃(n:Nat) (W:Nat->St->oj V->Hp->Prop),n<=UX/\W 0 σb [] (upd H1 D (.lst []))/\
  (∀i σ ys H,i<n->W i σ ys H->H D=u_ (.lst ys)->↑ys<=i->J.go i H/\∀x H',J.yld i H x H'->g x σ H' λσ2 H2=>tc σ2 H2 λb H3=>
   if b=v_ then te σ2 H3 λy H4=>H4 D=u_ (.lst ys)/\W (i+1) σ2 (ys++ [y]) (upd H4 D (.lst (ys++ [y]))) else H3 D=u_ (.lst ys)/\W (i+1) σ2 ys H3)/\
  ∀σ ys H,W n σ ys H->H D=u_ (.lst ys)->J.stop n H/\Q (.ref D) H
nonrec def tLC (nt:Nat)(fr:oj Nat)(wi:TI)(g:TG)(tc:TT)(te:TE):TE:=λσ H Q=>wi σ H λJ H1=>∀D,H1 D=US->Di D J g tc te (LV nt fr σ) H1 Q
section
variable {X:Cx}{scope:V9}{Nb:oj Str}{nt:Nat}{fr:oj Nat}
def Nh {oq:oj (o3×Obj)}{σ:St}{H:Hp}{s:o7}{fp:oj o3}{C:o3}{h4:o8}{tk:Nat}(S:LcS X scope Nb nt fr)(I:#[I])(hC:C=#[0,s])
  (ag:h4.Ns C λ_=>US) (U:∀b o,s.heap.get? b=u_ o->h4.get? b=u_ o) (hf:∀b∈fp,sK X oq H b) (ho:∀b∈fp,∃o,s.heap.get? b=u_ o) (ht:0<tk:=by ac_rfl):
  Inv (blk X scope Nb (mR X.env.cells scope.names []) C s H fp (X.pn++oq)) [] (LV nt fr σ) H {s with heap:=h4,toks:=tk}:=by
 subst hC;have sub:∀y c,(mR X.env.cells scope.names []).lookup y=u_ c->X.env.cells.lookup y=u_ c:=WZ λy c e=>by simp at e
 have Z:∀y,(y,Vb)∈scope.names->X.env.kindOf y=u_ .cell:=λy hy=>S.free _ hy rfl;have ad:∀b o,s.heap.get? b=u_ o->b≠#[0,s]:=λb o e z=>by rw[z] at e;exact A8 (uI e) (vF _)
 have O:∀b,b≠X.env.locals->b∉X.fs->b∉frs X.stack:=λb h1 h2 z=>(Aa.mp (I.stkSub b z)).elim h1 h2;exists ⟨I.ok.mod,S.kind,I.ok.glob,I.ok.blt,uj _,λx y c h1 h2=>I.ok.inj x y c (sub x c h1) (sub y c h2),λx hx=>?_,λx c z=>(by cases z),I.ok.hd,I.ok.frames,.inl rfl,λb hb=>?_,I.bs,uQ I.ok.bsz I.sz,λb o e hb=>?_,λb hb=>?_,I.stack,I.stkFree⟩,1,I.bare,Un.kept U,[_:ag:λi x v e1 e2 e3=>?_],λx c e=>?_,I.hok.fresh (uj _),λx c e=>I.freeC x c (sub x c e),λp hp=>?_,I.hok.kept U,?_,ht
 ·have hm:=wJ (env:=X.env) S.cell hx;exact kA hm (I.ok.has x (.inl (Z x hm)))
 ·erw[ho b hb,o,e];exact[ad b o e:λx c e'=>(hf b hb).2.2.2.2.1 x c (sub x c e')]
 ·rcases(hf b hb).2.2.2.1 with z|z
  ·exact I.ok.noex b o e z
  ·exact A8 (V5 (uI e) (uQ I.ok.bsz z)) (vF _)
 ·exact O b (hf b hb).2.1 (hf b hb).2.2.1
 ·
  have hi:nt<=i:=by
   rcases Gh i nt with z|z
   ·unfold LV at e2;rw[Uq (by simpa using z),Rh] at e2
    split at e2<;>cases e2
   ·exact z
  obtain⟨k,rfl⟩:∃k,i=nt+k:=[i-nt:()]
  unfold LV at e2;rw[Um (by simp)] at e2
  simp![Ft,Nat.add_sub_cancel_left,uN] at e2;cases ej:fr[k]? with
  |none=>rw[ej] at e2;cases e2
  |some j=>
   rw[ej] at e2;have aa:(σ[j]?).join=u_ v:=uL e2;have ae:σ[j]? =u_ (u_ v):=by
    cases q:σ[j]? with
    |none=>rw[q] at aa;cases aa
    |some z=>rw[q] at aa;exact A9 u_ aa
   erw[S.fr k j x ej e1,n1,n2];have kx:X.env.kindOf x=u_ .cell:=Z x (vB n2);erw[I.loc,m,hn,hl];erw[hl j x v n1 ae (.inr (.inl kx)),u,r,l];exists u,r,.inr [.inl (zN I.ok.kind n2 kx):?_];rcases l with⟨z,_⟩|⟨_,c,ec,ac⟩
   ·rw[kx] at z;cases z
   ·erw[kA (cells:=X.env.cells) (cs:= []) (vB n2) [c:ec],c',af];have:=sub x c' af;rw[ec] at this;cases this;erw[ac,o,q,d];exact⟨c,af,o,U c o q,d⟩
 ·erw[I.cell x c (sub x c e),v,o,q,d];exact⟨v,o,U c o q,d⟩
 ·have ah:p∈X.pn++oq:=by simpa using hp
  erw[I.pin p ah,e,n,ne,nf,d];exact⟨U _ _ e,n,ad _ _ e,O _ ne nf,d⟩
 ·show(LV nt fr σ).length=↑Nb;unfold LV;rw[S.len];simp
def Dh {tg aa al:Expr}{am:oj Expr}{wi:TI}{g:TG}{tc:TT}{te:TE}{pos:Pos}{R:o6->o3->VX->o7->Prop}{oq:oj (o3×Obj)}{s:o7}{σ:St}{H:Hp}{Q:VK}(S:LcS X scope Nb nt fr)(ao:X.calm=v_)(hi:PI X tg aa wi)
  (hg:∀cl C s₀ H₀ fp pn,PG (blk X scope Nb cl C s₀ H₀ fp pn) tg g) (hc:∀cl C s₀ H₀ fp pn,RS (blk X scope Nb cl C s₀ H₀ fp pn) am tc) (he:∀cl C s₀ H₀ fp pn,PE (blk X scope Nb cl C s₀ H₀ fp pn) al te)
  (I:#[I]) (h:tLC nt fr wi g tc te σ H Q)
  (hR:∀(D C:o3) (H':Hp) (s1:o7) (m:Str->om o6),Inv X oq σ H' s1->s1.heap.Ns C m->sK X oq H' C->Q (.ref D) H'->R (.ref D) C (.ok .next) s1):
  UU #[X,X] X.A (eval aa X.env) (λx s₁=>UU #[X,X] X.A (hV x) (λit s₂=>UU #[X,X] X.A (h_ []) (λax s₃=>
   UU #[X,X] X.A (Ht scope X.env.globals (mR X.env.cells scope.names []) [] X.env.qual US .none (u_ X.env)) (λag s₄=>
    Vn #[X,X] X.A (.compStart (.ListComp al [⟨tg,aa,am,(0)⟩] scope pos) 0 it ax {ag with scope:=relabel scope X.env}) (R ax ag.locals) s₄) X.xe s₃) X.xe s₂) X.xe s₁) X.xe s:=by
 refine thn (hi oq s σ H _ I h) λv s1 h1=>thn h1 λaS s2 h2=>?_;erw[h2,it,fp,tn,J,H2,e,I2,T,ap,f2,q2];subst e;have ay:H2 #[0,s2]=none:=I2.hok.fresh (uj _);erw[q2 _ ay,n,W,hn,w0,step,fin];generalize hD:#[0,s2]=D at*;refine vw ?_;rw[hD];have I3:Inv X oq σ (upd H2 D (.lst [])) {s2 with heap:=s2.heap.push {cls:= .type "list",data:= .seq ([]:oj o6).toArray}}:=by
  have:=I2.lnew (ys:= []) (its:= []) (t':=s2.toks) .nil (uW _);rwa[hD] at this
 refine wpAny_newFunctionEnv S.cell (by intro y hy;simp at hy) (λh4 ad aq=>?_) S.kind
 dsimp only at ad aq⊢;generalize aA:s2.heap.push {cls:= .type "list",dict:=US,data:= .seq ([]:oj o6).toArray}=h3 at ad aq I3⊢;have hC:h3.objs.size=D+1:=by rw[<-aA,vn,hD]
 have ae:∀b o,h3.get? b=u_ o->h4.get? b=u_ o:=λb o e=>aq.extBut b o (uR (uI e)) (ug _ e);have Z:∀b o,s2.heap.get? b=u_ o->h3.get? b=u_ o:=λb o e=>by rw[<-aA];exact ug _ e
 have au:∀b∈fp,∃o,s2.heap.get? b=u_ o:=λb O=>let⟨o,e,_⟩:=T.obj _ _ ap b O;[o:e];have aG:∀b∈fp,b≠D:=λb O z=>by
  erw[au b O,o,e];have q:=uI e;rw[z,hD] at q;exact vF _ q
 have f3:∀b∈fp,sK X oq (upd H2 D (.lst [])) b:=λb O=>⟨by rw[qk (aG b O)];exact(f2 b O).1,(f2 b O).2⟩
 have IB:=Nh (C:=h3.objs.size) (h4:=h4) (tk:=s2.toks+↑([]:oj (Str×o6))) (fp:=fp) S I3 rfl ad ae f3 λb O=>let⟨o,e⟩:=au b O;[o:Z b o e];generalize U:blk X scope Nb (mR X.env.cells scope.names []) h3.objs.size {s2 with heap:=h3} (upd H2 D (.lst [])) fp (X.pn++oq)=Xb at IB
 have gB:=hg (mR X.env.cells scope.names []) h3.objs.size {s2 with heap:=h3} (upd H2 D (.lst [])) fp (X.pn++oq)
 have cB:=hc (mR X.env.cells scope.names []) h3.objs.size {s2 with heap:=h3} (upd H2 D (.lst [])) fp (X.pn++oq)
 have eB:=he (mR X.env.cells scope.names []) h3.objs.size {s2 with heap:=h3} (upd H2 D (.lst [])) fp (X.pn++oq)
 rw[U] at gB cB eB;have xP:Xb.prog=X.prog:=by rw[<-U]
 have xW:Xb.w=X.w:=by rw[<-U]
 have xK:Xb.K=X.K:=by rw[<-U]
 have xA:Xb.A=X.A:=by rw[<-U]
 have xC:Xb.calm=true:=by rwa[<-U]
 have xE:Xb.env=HX scope (mR X.env.cells scope.names []) h3.objs.size X.env:=by rw[<-U]
 have xX:Xb.xe=λ_ _=>False:=by rw[<-U]
 have af:∀{H':Hp},(∀b∈fp,H' b=US)->∀b∈fp,sK Xb [] H' b:=λhn b O=>by
  erw[f2 b O,g1,g2,g3,g4,g5,g6];erw[au b O,o,e];subst U;exists hn b O,λz=>?_,λz=>(Aa.mp (I2.stkSub b z)).elim g2 g3,.inl O,λx c ec=>g5 x c (WZ (λy c e=>by simp at e) x c ec),λp hp=>g6 p (by simpa using hp)
  have ac:=uI (Z b o e);have z':b=h3.objs.size:=z;rw[z'] at ac;exact vF _ ac
 have ah:∀s5:o7,s5={s2 with heap:=h4,toks:=s2.toks+↑([]:oj (Str×o6))}->
   Vn #[X,X] X.A (.compLoop (.ListComp al [⟨tg,aa,am,(0)⟩] scope pos) 0 (.ref it) (.ref D) (HX scope (mR X.env.cells scope.names []) h3.objs.size X.env))
    (R (.ref D) h3.objs.size) s5:=by
  rintro s5 rfl;refine sA (λk s'=>∃i σ' ys H',Inv Xb [] σ' H' s'/\tn i s'.heap/\(∀b∈fp,H' b=US)/\H' D=u_ (.lst ys)/\i<=n/\k=n-i/\↑ys<=i/\W i σ' ys H') ?_ n
   ⟨(0),LV nt fr σ,[],_,IB,T.keep _ _ _ ap λb O o e=>ae b o (Z b o e),λb O=>(f3 b O).1,qg,uW _,1,uj _,w0⟩
  rintro k s' ⟨i,σ',ys,H',I',aB,aC,aD,aH,rfl,aI,w'⟩;rcases Gh i n with ac|aJ
  ·erw[step i σ' ys H' ac w' aD aI,go,next];have ti:=T.item Xb xP xW xK xC i [] s' σ' H' (λ_ _=>False) I' (af aC) aB go;rw[xA] at ti;refine vI ti (λr s1 h1=>?_) λ_ _ z=>z.elim;erw[h1,u,rfl,h1];refine vI h1 (λ_ aE aK=>?_) λ_ _ z=>z.elim;erw[aK,x,H5,I5,r5,y5,aw,aL];have aM:=I5.pinned (af aL) (T.obj _ _ aw);have ga:=gB _ aE σ' H5 x u _ aM r5 (next x H5 y5);rw[xP,xW,xA,xE,xX] at ga;refine vI ga (λ_ s3 aN=>?_) λ_ _ z=>z.elim;erw[aN,σ6,H6,I6,q6];have ca:=cB _ s3 σ6 H6 _ I6 q6;rw[xP,xW,xA,xE,xX] at ca;refine vI ca (λok s4 aO=>?_) λ_ _ z=>z.elim;erw[aO,H7,I7,q7];have ak:∀{σ8:St}{H8:Hp}{s8:o7},Inv Xb ([]++nN fp aE.heap) σ8 H8 s8->Inv Xb [] σ8 H8 s8/\tn (i+1) s8.heap/\∀b∈fp,H8 b=none:=λ{σ8 H8 s8} I8=>by
    exists I8.unpinned,T.keep _ _ _ aw λb O o e=>(I8.pin (b,o) (uM _ (uM _ (JP O e)))).1,λb O=>?_;erw[T.obj _ _ aw b O,o,e,d];exact(I8.pin (b,o) (uM _ (uM _ (JP O e)))).2.1
   cases ok with
   |false=>
    rw[A4 uc] at q7⊢;erw[ak I7,b1,b2,b3];exact⟨n-(i+1),(),i+1,σ6,ys,H7,b1,b2,b3,q7.1,ac,1,(),q7.2⟩
   |true=>
    rw[A6 rfl] at q7⊢;have ea:=eB _ s4 σ6 H7 _ I7 q7;rw[xP,xW,xA,xE,xX] at ea;refine vI ea (λy s5 h5=>?_) λ_ _ z=>z.elim;erw[h5,yv,H8,I8,r8,aP,q8];have ma:=jc (X:=Xb) _ s5 σ6 H8 (.ref D) [yv] (.ref D) [y] (λ_ H9=>H9=upd H8 D (.lst (ys++ [yv]))) I8 rfl (.cons r8 .nil) ⟨D,ys,yv,1,1,aP,(),1⟩
    rw[xP,xW,xA,xX] at ma;refine vI ma (λ_ s6 h6=>?_) λ_ _ z=>z.elim;erw[h6,_,H9,I9,_,rfl];erw[ak I9,b1,b2,b3];exact⟨n-(i+1),(),i+1,σ6,ys++ [yv],_,b1,b2,b3,qg,ac,1,by rw[uA,vm];omega,q8⟩
  ·have aF:i=n:=Nat.le_antisymm aH aJ;subst aF;erw[fin σ' ys H' w' aD,stop,hq];have td:=T.done Xb xP xW xK xC i [] s' σ' H' (λ_ _=>False) I' (af aC) aB stop;rw[xA] at td;refine vI td (λr s1 h1=>?_) λ_ _ z=>z.elim;erw[h1,rfl,I6];erw[id I6.loc,m,hm,_];rw[xE] at hm;have aQ:H' h3.objs.size=none:=by have:=I6.free;rwa[xE] at this
   have u6:Un (frs X.stack) fp (upd H2 D (.lst [])) H' h3 s1.heap:=by have:=I6.base;subst U;exact this
   have u2:Un (frs X.stack) fp H2 (upd H2 D (.lst [])) s2.heap h3:=Un.laid (λb o e=>Z b o e) (by rw[hD];exact uj _) ay
   have aR:s1.os=s2.os:=by have:=I6.os;subst U;exact this
   have hok:HOk X.prog X.w H' s1.heap:=by
    have:=I6.hok;subst U;exact this
   refine hR D h3.objs.size H' s1 m (I2.call' (s':=s1) (ch:=fp) aR (u2.trans u6) hok I6.bare λb O=>?_) hm (I2.fpOk () aQ) hq
   erw[f2 b O,g1,g2,g3,g4,g5,g6];exact⟨g4,g2,g5,g6⟩
 exact codeAny_compStart_list (ah _ rfl) (T.self _ 0 _ _ _ (T.keep _ _ _ ap λb O o e=>ae b o (Z b o e)) (ah _ rfl))
def xG {tg O aa:Expr}{ac:oj Expr}{wi:TI}{g:TG}{tc:TT}{te:TE}{pos:Pos}(S:LcS X scope Nb nt fr)(U:X.calm=v_)(hi:PI X tg O wi)
  (hg:∀cl C s₀ H₀ fp pn,PG (blk X scope Nb cl C s₀ H₀ fp pn) tg g) (hc:∀cl C s₀ H₀ fp pn,RS (blk X scope Nb cl C s₀ H₀ fp pn) ac tc) (he:∀cl C s₀ H₀ fp pn,PE (blk X scope Nb cl C s₀ H₀ fp pn) aa te)
  (hs:∀x,tK O X.env x=pure x):PE X (.ListComp aa [⟨tg,O,ac,(0)⟩] scope pos) (tLC nt fr wi g tc te):=by
 exists 2,Q,I,h;have Z:GS scope X.env=pure (mR X.env.cells scope.names []):=Wg λy hy=>I.ok.has y (.inl (S.free _ hy rfl));rw[eval_ListComp];refine TC (use:=US) rfl hs Z S.kind S.names ?_;refine Dh (R:=λad C=>compPost #[X,X] X.A X.xe US (EP X oq σ Q) ad C) S U hi hg hc he I h λD C H' s1 m I1 hm fc q=>?_;erw[fc,f0,f1,f2,f3,f4,f5];exact[m:hm:λh' ae=>⟨.ref D,H',I1.turned (t':=s1.toks) (it:=C) (λb o hb e=>(ae.2 b hb).trans e) f0 f1 f3 f4 f5,1,q⟩]
def EQ {i:Nat}{y:Str}{tg O U:Expr}{Z:oj Expr}{wi:TI}{g:TG}{tc:TT}{te:TE}{pos aa py:Pos}(hN:X.N.Nodup)(ae:X.N[i]? =u_ y)(hy:Loc X.env.scope y)(S:LcS X scope Nb nt fr)(ac:X.calm=v_)(hi:PI X tg O wi)
  (hg:∀cl C s₀ H₀ fp pn,PG (blk X scope Nb cl C s₀ H₀ fp pn) tg g) (hc:∀cl C s₀ H₀ fp pn,RS (blk X scope Nb cl C s₀ H₀ fp pn) Z tc) (he:∀cl C s₀ H₀ fp pn,PE (blk X scope Nb cl C s₀ H₀ fp pn) U te)
  (hs:∀x,tK O X.env x=pure x) (af:Gk (.ListComp U [⟨tg,O,Z,(0)⟩] scope pos) (u_ (.Name y py)) aa.line X.env=pure v_)
  (hf:X.fn y=v_∨X.env.scope.names.lookup y=u_ .local):
  PS X (.Assign [.Name y py] (.ListComp U [⟨tg,O,Z,(0)⟩] scope pos) aa) (SN (tLC nt fr wi g tc te) (ji i)):=by
 exists 2,D,I,h;have ad:GS scope X.env=pure (mR X.env.cells scope.names []):=Wg λy hy=>I.ok.has y (.inl (S.free _ hy rfl));rw[exec_Assign_Name_used _ _ _ _ af];refine A7 (GE (A7 ?_));show UU _ X.A (do let _<-comprehension (.ListComp U [⟨tg,O,Z,(0)⟩] scope pos) scope X.env _ (h_ []) UT (eval O X.env) (u_ (VG (.Name y py) X.env))) _ _ s
 refine A7 (vI (TC (use:=u_ (VG (.Name y py) X.env)) (Q:=λ_ s'=>SP X oq D .next s') rfl hs ad S.kind S.names ?_) (λ_ s' hq=>uF (uF hq)) λ_ _ e=>e);refine Dh (R:=λag C=>compPost #[X,X] X.A X.xe (u_ (VG (.Name y py) X.env)) (λ_ s'=>SP X oq D .next s') ag C) S ac hi hg hc he I h λA C H' s1 m I1 hm fc q=>?_;erw[fc,f0,f1,f2,f3,f4,f5];show UU _ X.A (VG (.Name y py) X.env (.ref A)) _ _ s1;refine Fo (nh (v:= .ref A) I1 hN ae hy (show ik (.ref A) (.ref A) from rfl) (λs' I' zq=>?_) hf);erw[zq,a,sb,ha]
 have ah:C≠a:=by
  rcases ha with rfl|ha
  ·exact f1
  ·exact λz=>f4 y a ha z.symm
 refine[m:hm.sameBut sb ah:λh' ak=>⟨_,H',I'.turned (t':=s'.toks) (it:=C) (λb o hb e=>(ak.2 b hb).trans e) f0 f1 f3 f4 f5,q⟩]
end
def Kz {X:Cx}{sc:V9}{x:Str}(O:sc.kind= .function:=by rfl)(U:∀y∈sc.names,y.2≠ .cell:=by decide+kernel)(hn:∀y∈sc.names,y.2= .local->sc.names.lookup y.1=u_ .local:=by decide+kernel)
  (Z:∀y∈sc.names,y.2≠ .free:=by decide+kernel):LcS X sc [x] 1 []:=⟨O,U,hn,λy hy e=>A8 e (Z y hy),1,λk j x h=>by simp at h⟩
def Ky {X:Cx}{sc:V9}{Nb:oj Str}{nt:Nat}{fr:oj Nat}(O:V9)(U:oj Str)(Z:X.env.scope=O:=by rfl)(hN:X.N=U:=by rfl)(hk:sc.kind= .function:=by rfl)(hc:∀y∈sc.names,y.2≠ .cell:=by decide+kernel)
  (hn:∀y∈sc.names,y.2= .local->sc.names.lookup y.1=u_ .local:=by decide+kernel) (hf:∀y∈sc.names,y.2= .free->O.names.lookup y.1=u_ .cell:=by decide+kernel) (hl:↑Nb=nt+↑fr:=by rfl)
  (hz:((fr.zip (Nb.drop nt)).all λp=>decide (U[p.1]? =u_ p.2)&&decide (sc.names.lookup p.2=u_ .free))=true:=by decide+kernel):LcS X sc Nb nt fr:=by
 subst Z hN;exists hk,hc,hn,hf,hl,λk j x h1 h2=>?_;have hm:(fr.zip (Nb.drop nt))[k]? =u_ (j,x):=by
  rw[List.getElem?_zip_eq_some];exact⟨h1,by rwa[List.getElem?_drop]⟩
 have q:=List.all_eq_true.mp hz _ (vi hm);rw[uC] at q;exact[uu q.1:uu q.2]
def Pk {z:Str}{D:o3}{H1:Hp}{te:TE}{tl:St}{Q:VK}(f:Nat->V)(hz:↑z<=UX)(Z:H1 D=US)
  (O:∀(i c:Nat) H (R:VK),z.cps[i]? =u_ c->ic H1 H->R (f c) H->te (u_ (.str ⟨#[c]⟩)::tl) H R)
  (hQ:∀H',ic H1 H'->H' D=u_ (.lst (z.cps.toList.map f))->Q (.ref D) H'):Di D (Its z) (ji 0) AW te (US::tl) H1 Q:=by
 exists z.cps.size,λi σ ys H=>(∃w,σ=w::tl)/\ys=(z.cps.toList.take i).map f/\ic H1 H,hz,[[US:1]:1:qf Z _],?_,?_
 ·rintro i σ ys H hi ⟨⟨w,rfl⟩,rfl,sm⟩ U hy;exists hi;rintro x H' ⟨rfl,c,hc,rfl⟩;dsimp![ji,AW,G7];rw[A6 rfl];refine O i c H' _ hc sm ⟨U,[u_ (.str ⟨#[c]⟩):1],?_,?_⟩
  ·rw[vD,show z.cps.toList[i]? =u_ c by simpa using hc]
   simp
  ·intro b o e;rw[qk (ql e Z)];exact sm b o e
 ·rintro σ ys H ⟨_,rfl,sm⟩ U;exists 1,hQ H sm ?_;rw[U,vj (by simp)]
inductive IsT (H:Hp)(p:List V->Prop)(v:V):Prop
 |mk (a:Addr)(vs:List V)(_:v= .ref a)(_:H a=u_ (.tup vs))(_:p vs)
inductive IsC (p:V->Prop)(q:List V->Prop)(vs:List V):Prop
 |mk (v:V)(r:List V)(_:vs=v::r)(_:p v)(_:q r)
mutual
noncomputable def Is (H:Hp):D->V->Prop
 | .non,v=>v= .non
 | .bl b,v=>v= .bl b
 | .int i,v=>v= .int i
 | .str z,v=>v= .str z/\↑z<=UX
 | .lst,v=>∃a xs,v= .ref a/\H a=u_ (.lst xs)
 | .dct,v=>∃a kvs,v= .ref a/\H a=u_ (.dK kvs)
 | .tup xs,v=>IsT H (IsL H xs) v
noncomputable def IsL (H:Hp):oj D->oj V->Prop
 | [],vs=>vs= []
 |x::xs,vs=>IsC (Is H x) (IsL H xs) vs
end
structure Tk (H H':Hp):Prop where
 tup:∀b xs,H b=u_ (.tup xs)->H' b=u_ (.tup xs)
 lst:∀b xs,H b=u_ (.lst xs)->∃ys,H' b=u_ (.lst ys)
 dct:∀b xs,H b=u_ (.dK xs)->∃ys,H' b=u_ (.dK ys)
def ic.tk (s:ic H H'):Tk H H':=[λb xs e=>s b _ e:λb xs e=>[xs:s b _ e]:λb xs e=>[xs:s b _ e]]
def Tk.refl (H:Hp):Tk H H:=(ic.refl H).tk
def Tk.trans (a:Tk H H1)(b:Tk H1 H2):Tk H H2:=⟨λc xs e=>b.tup c xs (a.tup c xs e),λc xs e=>let⟨ys,e1⟩:=a.lst c xs e;b.lst c ys e1,λc xs e=>let⟨ys,e1⟩:=a.dct c xs e;b.dct c ys e1⟩
variable {xs ys:oj V}
def iR.tk (k:iR p H H')(h:H p=u_ (.lst xs))(h':H' p=u_ (.lst ys)):Tk H H':=by
 exists λb zs e=>k b _ e λz=>?_,λb zs e=>?_,λb zs e=>[zs:k b _ e λz=>?_]
 ·rw[z,h] at e;cases e
 ·by_cases z:b=p
  ·exact[ys:z▸h']
  ·exact[zs:k b _ e z]
 ·rw[z,h] at e;cases e
mutual
theorem Is.mono {H H':Hp}(t:Tk H H'):∀{d:D}{v:V},Is H d v->Is H' d v
 | .non,_,h=>h
 | .bl _,_,h=>h
 | .int _,_,h=>h
 | .str _,_,h=>h
 | .lst,_,h=>by
  erw[h,a,vs,e,ha];erw[t.lst a vs ha,ys,q];exact⟨a,ys,e,q⟩
 | .dct,_,h=>by
  erw[h,a,vs,e,ha];erw[t.dct a vs ha,ys,q];exact⟨a,ys,e,q⟩
 | .tup xs,_,h=>by
  erw[h,a,vs,e,ha,O];exact⟨a,vs,e,t.tup a vs ha,IsL.mono t O⟩
theorem IsL.mono {H H':Hp}(t:Tk H H'):∀{ds:oj D}{vs:oj V},IsL H ds vs->IsL H' ds vs
 | [],_,h=>h
 |_::_,_,h=>by
  erw[h,v,r,e,h1,h2];exact⟨v,r,e,Is.mono t h1,IsL.mono t h2⟩
end
def IsL.length {H:Hp}:∀{ds:oj D}{vs:oj V},IsL H ds vs->↑vs=↑ds
 | [],_,h=>by cases(show _= [] from h);rfl
 |_::_,_,h=>by
  erw[h,v,r,rfl,_,h2];rw[um,um,IsL.length h2]
def IsL.get {H:Hp}:∀{ds:oj D}{vs:oj V}{i:Nat}{d:D},IsL H ds vs->ds[i]? =u_ d->∃v,vs[i]? =u_ v/\Is H d v
 | [],_,_,_,_,e=>by simp at e
 |x::_,_,0,d,h,e=>by
  erw[h,v,r,rfl,h1,_];have:x=d:=by simpa using e
  exact[v:1:this▸h1]
 |_::_,_,i+1,d,h,e=>by
  erw[h,v,r,rfl,_,h2];obtain⟨u,O,U⟩:=IsL.get (i:=i) (d:=d) h2 (by simpa using e)
  exact⟨u,by simpa using O,U⟩
def IsL.append {H:Hp}:∀{ds es:oj D}{vs us:oj V},IsL H ds vs->IsL H es us->IsL H (ds++es) (vs++us)
 | [],_,_,_,h,k=>by cases(show _= [] from h);exact k
 |_::_,_,_,_,h,k=>by
  erw[h,v,r,rfl,h1,h2];exact⟨v,0,h1,IsL.append h2 k⟩
variable {v:V}
def IsL.one {d:D}(h:Is H d v):IsL H [d] [v]:=⟨v,[],1,h,1⟩
variable {ds:oj D}
def Is.new {vs:oj V}(h:IsL H ds vs)(O:H p=US):Is (upd H p (.tup vs)) (.tup ds) (.ref p):=
 ⟨p,vs,1,qg,h.mono (qf O _).tk⟩
nonrec def tyD:D->o6
 | .non=> .type "NoneType"
 | .bl _=> .type "bool"
 | .int _=> .type "int"
 | .str _=> .type "str"
 | .lst=> .type "list"
 | .dct=> .type "dict"
 | .tup _=> .type "tuple"
def Is.ty {d:D}(h:Is H d v):AR K H v (tyD d):=by
 cases d with
 |non=>cases(show v= .non from h);exact .non
 |bl b=>cases(show v= .bl b from h);exact .bl b
 |int i=>cases(show v= .int i from h);exact .int i
 |str z=>
  erw[h,rfl,_];exact .str z
 |lst=>
  erw[h,a,vs,rfl,ha];exact .lst ha
 |dct=>
  erw[h,a,vs,rfl,ha];exact .dK ha
 |tup xs=>
  erw[h,a,vs,rfl,ha,_];exact .tup ha
section
variable {X:Cx}
def Cy:OpR X (V4 .Gt) (λx y H Q=>∃i j,x= .str i/\y= .str j/\Q (.bl (decide (j.cps.toList<i.cps.toList))) H):=by
 exists 2,x,y,v,u,Q,I,O,U,h;erw[h,i,j,rfl,rfl,q];erw[O,t,rfl];erw[U,t',rfl];exact PySem.P.gt_str (Qh I q rfl)
def wy (Z:X.calm=v_):YN X (.builtin "sum") (λxs H Q=>∃(p:o3) (ns:oj Int),xs= [.ref p]/\SqL X.K H p (ns.map V.int)/\Q (.int ns.sum) H):=by
 exists 2,xs,us,Q,I,r,h;erw[h,p,ns,rfl,hp,q];erw[Xq r,u,rfl,ru];cases ru;erw[I.list hp,its,rv,pl,hz];have hi:VU its ns:=Br rv;erw[hi.allInts.items,ys,U];have O:s.heap.IsList p (intItems ys):=U▸pl.isList;refine v9 (n:=1) I.tk (sum_intListG (I.ok.hd Z) O λh' tk t' hk=>?_);intro htk;have e1:ns=ys.toList.map (·.1):=by
  have q1:=hi.numsOf;rw[<-nums_intItems,<-U];exact(show numsOf its.toArray.toList=ns from q1).symm
 have e2:preSum (numAt ys) ys.size=ns.sum:=by
  rw[preSum_eq,vj (by simp),e1]
 rw[e2];exact⟨.int ns.sum,H,I.kept hk,[t':1],q⟩
inductive EO (K:PySem.W.Frag)(x:V)(y:V)(H:Hp)(Q:VK):Prop
 |mk (a:_)(b:_)(xs:_)(ys:_)(_:x= .ref a)(_:y= .ref b)(_:SqT K H a xs)(_:SqT K H b ys)(_:↑xs+↑ys<=UX)(_:(xs= []->Q (.ref b) H))(_:(xs≠ []->ys= []->Q (.ref a) H))(_:(xs≠ []->ys≠ []->∀p,H p=US->Q (.ref p) (upd H p (.tup (xs++ys)))))
def zp:OpR X (Vl .Add) (EO X.K):=by
 exists 2,x,y,v,u,Q,I,U,Z,h;erw[h,a,b,xs,ys,rfl,rfl,ha,hb,hz,q0,q1,q2];by_cases O:xs= []
 ·cases U;cases Z;erw[I.tuple ha,its,r1,p1,_];erw[I.tuple hb,aa,r2,p2,_];subst O;cases r1;erw[id p1,[c1,d1,t1,l1],o1,e1,n1,f1];erw[id p2,[c2,d2,t2,l2],o2,e2,n2,f2];simp only at e1 f1 e2 f2;subst e1 f1 e2 f2;exact tL p1.typeIs p2.typeIs T4 tF PySem.F.slot_tuple_add UC (Uv _ _) (tuple_addW0 a b _ _ n1 n2 d1 d2 l1 l2 rfl) [o1:o2:⟨.ref b,H,I,1,q0 rfl⟩]
 ·exact Mm oq s σ H (.ref a) (.ref b) v u Q I U Z ⟨a,b,xs,ys,1,1,ha,hb,O,hz,q1 O,q2 O⟩
end
def Tk.updL (h:H p=u_ (.lst xs)):Tk H (upd H p (.lst ys)):=by
 exists λb zs e=>?_,λb zs e=>?_,λb zs e=>[zs:?_]
 ·rw[qk (λz=>by rw[z,h] at e;cases e)];exact e
 ·by_cases z:b=p
  ·exact⟨ys,by rw[z];exact qg⟩
  ·exact⟨zs,by rwa[qk z]⟩
 ·rw[qk (λz=>by rw[z,h] at e;cases e)];exact e
def Dg {J:It}{A:o3}{H1:Hp}{te:TE}{tl:St}{Q:VK}{ds:oj D}(f:D->D)(hn:↑ds<=UX)(hA:H1 A=US)
  (aa:∀i H,ic H1 H->i<↑ds->J.go i H) (hy:∀i H x H' d,ic H1 H->ds[i]? =u_ d->J.yld i H x H'->H'=H/\Is H d x) (U:∀H,ic H1 H->J.stop ↑ds H)
  (ac:∀d x H (R:VK),d∈ds->ic H1 H->Is H d x->(∀y H',ic H H'->Is H' (f d) y->R y H')->te (u_ x::tl) H R)
  (hQ:∀H' ys,ic H1 H'->H' A=u_ (.lst ys)->IsL H' (ds.map f) ys->Q (.ref A) H'):Di A J (ji 0) AW te (US::tl) H1 Q:=by
 exists ↑ds,λi σ ys H=>(∃w,σ=w::tl)/\IsL H ((ds.take i).map f) ys/\ic H1 H,hn,[[US:1]:1:qf hA _],?_,?_
 ·rintro i σ ys H hi ⟨⟨w,rfl⟩,Z,sm⟩ O ae;exists aa i H sm hi,λx H' y=>?_;erw[hy i H x H' ds[i] sm (uq hi) y,rfl,hx];dsimp![ji,AW,G7];rw[A6 rfl];refine ac ds[i] x H' _ (uY hi) sm hx λy' H4 s4 ad=>⟨s4 _ _ O,[u_ x:1],?_,λb o e=>?_⟩
  ·have t:Tk H4 (upd H4 A (.lst (ys++ [y']))):=Tk.updL (s4 _ _ O);have e:(ds.take (i+1)).map f=(ds.take i).map f++ [f ds[i]]:=by
    rw[vD,uq hi,uz]
    rfl
   rw[e];exact((Z.mono s4.tk).mono t).append (IsL.one (ad.mono t))
  ·rw[qk (ql e hA)];exact s4 b o (sm b o e)
 ·rintro σ ys H ⟨_,Z,sm⟩ O;exists U H sm,hQ H ys sm O ?_;rwa[vj (uj _)] at Z
def pW {K:o0}{a A:o3}{H1:Hp}{te:TE}{tl:St}{Q:VK}{ds:oj D}{vs:oj V}(f:D->D)(ha:H1 a=u_ (.tup vs))(U:IsL H1 ds vs)(hn:↑ds<=UX)(hA:H1 A=US)
  (O:∀d x H (R:VK),d∈ds->ic H1 H->Is H d x->(∀y H',ic H H'->Is H' (f d) y->R y H')->te (u_ x::tl) H R)
  (hQ:∀H' ys,ic H1 H'->H' A=u_ (.lst ys)->IsL H' (ds.map f) ys->Q (.ref A) H'):Di A (Itt K a) (ji 0) AW te (US::tl) H1 Q:=by
 have ln:=↑U;refine Dg f hn hA (λi H sm hi=>⟨vs,vs[i]'(),SqT.of (sm _ _ ha),uq _⟩) (λi H x H' d sm hd y=>?_) (λH sm=>[vs:SqT.of (sm _ _ ha):()]) O hQ
 erw[y,rfl,y];erw[U.get hd,v,e1,e2];have Z:=y vs (SqT.of (sm _ _ ha));rw[e1] at Z;cases Z;exact[1:e2.mono sm.tk]
def IsL.bls {H:Hp}:∀{bs:oj Bool}{vs:oj V},IsL H (bs.map D.bl) vs->vs=bs.map V.bl
 | [],_,h=>h
 |_::_,_,h=>by
  erw[h,v,r,rfl,h1,h2];rw[IsL.bls h2,show v=_ from h1];rfl
variable {Q:VK}
def xy {d:D}(h:Is H (.tup ds) v)(hi:atI ds i=u_ d)(q:∀x,Is H d x->Q x H):Kj K v (.int i) H Q:=by
 erw[h,a,vs,rfl,ha,O];erw[kW hi,j,h1,h2,h3,h4,h5];erw[O.get h2,x,Z,e2];exists a,vs,i,x,1,1,SqT.of ha,?_,q x e2;have ln:=↑O;unfold atI at hi⊢;rw[ln];cases e:ixN ↑ds i with
 |none=>rw[e] at hi;cases hi
 |some k=>
  rw[e] at hi;erw[pZ e,U,_];rw[h1] at U;cases U;exact Z
nonrec def inS (i j:Str):Bool:= !(Gy j i 0 ↑j 1).isEmpty
def Ni (j:Str)(c:Nat):inS ⟨#[c]⟩ j=decide (c∈j.cps.toList):=StrLaws.found_one j c
def Nt {z:Str}{g:TG}{tb:TS}{E:mP}{σ:St}{H:Hp}(O:Nat->St->Hp->Prop)(h0:O 0 σ H)
  (hs:∀(i c:Nat) σ H,z.cps[i]? =u_ c->O i σ H->g (.str ⟨#[c]⟩) σ H λZ H2=>tb {E with nx:=O (i+1),ct:=O (i+1),bk:=E.nx} Z H2) (hd:∀σ H,O z.cps.size σ H->E.nx σ H):
  ∃W:Nat->Nat->St->Hp->Prop,(∃m,W 0 m σ H)/\∀i m σ H,W i m σ H->
   ((Its z).stop i H/\E.nx σ H)∨((Its z).go i H/\∃N:St->Hp->Prop,(∀σ' H',N σ' H'->∃m',m'<m/\W (i+1) m' σ' H')/\∀x H',(Its z).yld i H x H'->g x σ H' λZ H2=>tb {E with nx:=N,ct:=N,bk:=E.nx} Z H2):=by
 exists λi m σ H=>m=z.cps.size-i/\i<=z.cps.size/\O i σ H,⟨z.cps.size,by simp,uW _,h0⟩
 rintro i m σ H ⟨rfl,hi,p⟩;by_cases U:i<z.cps.size
 ·refine .inr ⟨U,O (i+1),λσ' H' p'=>⟨z.cps.size-(i+1),(),1,U,p'⟩,λx H' y=>?_⟩
  erw[y,rfl,c,hc,rfl];exact hs i c σ _ hc p
 ·have e:i=z.cps.size:=by omega
  exact .inl [e:hd σ H (e▸p)]
def IsL.unsnoc {H:Hp}:∀{ds:oj D}{d:D}{vs:oj V},IsL H (ds++ [d]) vs->∃us x,vs=us++ [x]/\IsL H ds us/\Is H d x
 | [],d,_,h=>by
  erw[h,v,r,rfl,h1,h2];cases(show r= [] from h2)
  exact⟨[],v,1,1,h1⟩
 |e::r,d,_,h=>by
  erw[h,v,q,rfl,h1,h2];erw[IsL.unsnoc h2,us,x,rfl,h3,h4];exact⟨v::us,x,1,⟨v,us,1,h1,h3⟩,h4⟩
nonrec def isStr:D->Bool
 | .str _=>v_
 |_=>UT
nonrec def X6:D->Bool
 | .tup _=>v_
 |_=>UT
section
variable {K:o0}
def KB {T U:String}{b:Bool}(h:(VW T==VW U)=UT)(hm:PySem.W.kitMeta U=v_)(O:(fastBuiltinMro T).map (·.contains (VW U))=u_ b):PySem.W.kitOne K (.type T) (.type U)=u_ b:=by
 unfold PySem.W.kitOne;rw[A4 (by rw[h];exact uc)]
 show(if PySem.W.kitMeta U=v_ then PySem.W.subIn K (.type T) (.type U) else US)=u_ b
 rw[A6 hm];exact O
def Kf {T:String}(h:(VW T==VW T)=v_):PySem.W.kitOne K (.type T) (.type T)=u_ true:=by
 unfold PySem.W.kitOne;rw[A6 h]
def jx (d:D):PySem.W.kitOne K (tyD d) (.type "str")=u_ (isStr d):=by
 cases d with
 |str z=>exact Kf ()
 |_=>exact KB (b:=UT) () () ()
def xn (d:D):PySem.W.kitOne K (tyD d) (.type "tuple")=u_ (X6 d):=by
 cases d with
 |tup z=>exact Kf ()
 |_=>exact KB (b:=UT) () () ()
end
def Pg (c k:Nat):decide ((⟨#[c]⟩:Str).cps.toList< [k])=decide (c<k):=by
 rw[uX];simp[FK]
def O0 (c k:Nat):decide ([k]<(⟨#[c]⟩:Str).cps.toList)=decide (k<c):=by
 rw[uX];simp[FK]
def pY {X:Cx}{K:o0}(h:X.K=K):IxR X (Kj K):=by subst h;exact qF
def Iy {X:Cx}{K:o0}(h:X.K=K):IxR X (SX K):=by subst h;exact yi
inductive Sa (K:PySem.W.Frag)(R:(It->Hp->Prop))(x:V)(H1:Hp):Prop
 |mk (a:_)(xs:_)(_:x= .ref a)(_:SqT K H1 a xs)(_:(↑xs<=UX->R (Itt K a) H1))
nonrec def Aae (K:o0)(tl:TE):TI:=λσ H R=>tl σ H λx H1=>Sa K R x H1
def X7 {X:Cx}{tg l:Expr}{tl:TE}(U:PE X l tl):PI X tg l (Aae X.K tl):=by
 exists 2,R,I,h;refine thn (U oq s σ H _ I h) λv s1 zq=>?_;erw[zq,x,H1,O,Z,q1];erw[q1,a,xs,e,hq,q];subst e;cases Z;erw[O.tuple hq,its,rv,p,hz];refine Hy (show s1.heap.IsTuple a its.toArray from p) ?_
 exists #[0,s1],[#[0,s1]],_,_,H1,1,O.kept (t':=s1.toks) λb o e=>ug _ e,WC a _,⟨_,uJ _ rfl,1,1⟩,λb hb=>?_,q hz;have e:b=#[0,s1]:=by simpa using hb
 subst e;exact O.fpOk (uj _) (O.hok.fresh (uj _))
variable {X:Cx}
def D7:YN X (.builtin "len") (λxs H Q=>∃p ys,xs= [.ref p]/\(SqL X.K H p ys∨SqT X.K H p ys)/\(↑ys<=UX->Q (.int ↑ys) H)):=by
 exists 2,xs,us,Q,I,r,h;erw[h,p,ys,e,O,q];have U:↑ys<=sizeLine:=by
  rcases O with O|O
  ·exact(I.list O).choose_spec.2.2
  ·exact(I.tuple O).choose_spec.2.2
 exact qN oq s σ H xs us Q I r ⟨p,ys,e,O,q U⟩
variable {n:Nat}
def Z5 (h:n<=↑xs):AK xs (u_ (n:Int)) US=xs.drop n:=by
 unfold AK;rw[HT.sIx_none,HT.sIx_nat,rL h];exact vj (by rw[vS];exact uj _)
end L2
namespace L2
open PySem PySem.Spec PyProof.Rows Builtin Builtin.Str
nonrec def mH (c:Nat):oj Nat->Nat->oj Nat
 | [],_=> []
 |a::r,i=>if a=c then i::mH c r (i+1) else mH c r (i+1)
nonrec def iQ (c:Nat):Nat->oj Nat->oj (oj Nat)
 |0,L=> [L]
 |_+1,[]=> [[]]
 |n+1,a::r=>if a=c then []::iQ c n r else match iQ c (n+1) r with
  |p::q=>(a::p)::q
  | []=> [[a]]
nonrec def ofL (l:oj Nat):Str:=⟨l.toArray⟩
def Q7 (z:Str):ofL z.cps.toList=z:=by
 unfold ofL;simp
def Jj (c:Nat):∀(n:Nat) (L:oj Nat),∃p q,iQ c n L=p::q
 |0,L=>⟨L,[],by simp[iQ]⟩
 |n+1,[]=>⟨[],[],by simp[iQ]⟩
 |n+1,a::r=>by
  by_cases h:a=c
  ·exact⟨[],iQ c n r,by simp[iQ,h]⟩
  ·erw[Jj c (n+1) r,p,q,e];exact⟨a::p,q,by simp[iQ,h,e]⟩
def AL {c:Nat}{n:Nat}{r:oj Nat}:∀{p:oj Nat},c∉p->iQ c (n+1) (p++c::r)=p::iQ c n r
 | [],_=>by simp[iQ]
 |a::p,h=>by
  have h1:a≠c:=λe=>h (by simp[e])
  have O:=AL (n:=n) (r:=r) (p:=p) (λz=>h (uh _ z));show iQ c (n+1) (a::(p++c::r))=_;rw[iQ,A4 h1,O]
def ZQ {c:Nat}{n:Nat}:∀{p:oj Nat},c∉p->iQ c n p= [p]
 | [],_=>by cases n<;>simp[iQ]
 |a::p,h=>by
  have h1:a≠c:=λe=>h (by simp[e])
  cases n with
  |zero=>simp[iQ]
  |succ n=>
   have O:=ZQ (n:=n+1) (p:=p) (λz=>h (uh _ z));rw[iQ,A4 h1,O]
def AX (x:Str)(c i:Nat)(h:i<↑x):subAt x ⟨#[c]⟩ i=decide (x.cps.toList[i]? =u_ c):=by
 rw[StrLaws.subAt_eq];have O:i<↑x.cps.toList:=by simpa [VA] using h
 have U:(x.cps.toList.drop i).take 1= [x.cps.toList[i]]:=by
  rw[vg O]
  rfl
 show((x.cps.toList.drop i).take 1== [c])=_;rw[U,uq O];generalize x.cps.toList[i]=k;by_cases e:k=c
 ·simp[e]
 ·simp[e]
def nV (x:Str)(c n:Nat):∀(m k:Nat) (found:Array Nat) (free:Nat),k+m=↑x+1->free<=k->
  (Vu (gY k m) (found,free) (VN x ⟨#[c]⟩ ↑x n)).run.fst.toList=found.toList++(mH c (x.cps.toList.drop k) k).take (n-found.size)
 |0,k,found,free,hk,_=>by
  have hl:↑x.cps.toList<=k:=by simp[VA] at hk⊢;omega
  rw[U8 hl];simp[mH]
 |m+1,k,found,free,hk,hf=>by
  rw[List.range'_succ,Uh];unfold VN;have ac:↑x.cps.toList=↑x:=by simp[VA]
  by_cases Z:k<↑x
  ·have aa:k<↑x.cps.toList:=by omega
   rw[vg aa];have hs:=AX x c k Z;rw[uq aa] at hs;by_cases e:x.cps.toList[k]=c
   ·have O:subAt x ⟨#[c]⟩ k=true:=by rw[hs,e];simp
    by_cases hn:found.size<n
    ·rw[A6 ⟨⟨[hn:hf],by show k+1<=↑x;omega⟩,O⟩]
     have U:=nV x c n m (k+1) (found.push k) (k+1) () (uj _)
     show(Vu (gY (k+1) m) (found.push k,k+1) (VN x ⟨#[c]⟩ ↑x n)).run.fst.toList=_;rw[U];rw[mH,A6 e,Array.toList_push,FR];obtain⟨j,hj⟩:∃j,n-found.size=j+1:=[n-found.size-1:()]
     rw[hj,Hz,show n-(found.size+1)=j by omega]
     simp
    ·rw[A4 (λz=>hn z.1.1.1)];have U:=nV x c n m (k+1) found free () ()
     show(Vu (gY (k+1) m) (found,free) (VN x ⟨#[c]⟩ ↑x n)).run.fst.toList=_;rw[U,show n-found.size=0 by omega]
     simp
   ·have O:¬subAt x ⟨#[c]⟩ k=true:=by rw[hs];intro z;exact e (uL (uu z))
    rw[A4 (λz=>O z.2)];have U:=nV x c n m (k+1) found free () ()
    show(Vu (gY (k+1) m) (found,free) (VN x ⟨#[c]⟩ ↑x n)).run.fst.toList=_;rw[U,mH,A4 e]
  ·rw[A4 (λz=>Z (by have:=z.1.2;show k<↑x;have h1:k+1<=↑x:=this;omega))]
   have U:=nV x c n m (k+1) found free () ()
   show(Vu (gY (k+1) m) (found,free) (VN x ⟨#[c]⟩ ↑x n)).run.fst.toList=_;rw[U];have h1:↑x.cps.toList<=k:=by omega
   rw[U8 h1,U8 ()]
   simp[mH]
def k9 (x:Str)(c n:Nat):occurrences x ⟨#[c]⟩ 0 ↑x n=(mH c x.cps.toList 0).take n:=by
 rw[F_];have:=nV x c n (↑x+1) 0 #[] 0 () (uj _)
 simpa using this
nonrec def att (p:oj Nat):oj (oj Nat)->oj (oj Nat)
 |q::r=>(p++q)::r
 | []=> [p]
def EV (x:Str)(c:Nat):∀(m n a b:Nat),a<=b->b+m=↑x->
  GD x 1 a ((mH c (x.cps.toList.drop b) b).take n)=(att ((x.cps.toList.drop a).take (b-a)) (iQ c n (x.cps.toList.drop b))).map ofL:=by
 have ac:↑x.cps.toList=↑x:=by simp[VA]
 have O:∀i j,strSub x i j=ofL ((x.cps.toList.drop i).take (j-i)):=λi j=>by
  rw[<-Q7 (strSub x i j),Fj]
 intro m
 induction m with
 |zero=>
  intro n a b aa hb;have h1:x.cps.toList.drop b= []:=U8 ()
  rw[h1];have e1:iQ c n []= [[]]:=by cases n<;>simp[iQ]
  rw[e1];simp![mH,List.take_nil,GD,att,vQ,uB,U3];rw[O,show ↑x-a=b-a by omega]
 |succ m ih=>
  intro n a b aa hb;have U:b<↑x.cps.toList:=by omega
  rw[vg U];cases n with
  |zero=>
   simp![List.take_zero,GD,iQ,att,uB,U3];rw[O,<-vg U];have Z:(x.cps.toList.drop a).take (↑x-a)=x.cps.toList.drop a:=vj (by rw[vS];omega)
   have e3:x.cps.toList.drop b=(x.cps.toList.drop a).drop (b-a):=by rw[List.drop_drop];congr 1;omega
   rw[Z,e3,FL]
  |succ n=>
   by_cases e:x.cps.toList[b]=c
   ·rw[mH,A6 e,Hz,GD,iQ,A6 e];rw[ih n (b+1) (b+1) (uj _) ()]
    erw[Jj c n (x.cps.toList.drop (b+1)),p,q,Z];rw[Z,O];simp[att]
   ·rw[mH,A4 e,ih (n+1) a (b+1) () (),iQ,A4 e]
    erw[Jj c (n+1) (x.cps.toList.drop (b+1)),p,q,Z];rw[Z];simp![att,uB]
    congr 2
    have e3:b+1-a=(b-a)+1:=by omega
    have hx:b-a<↑(x.cps.toList.drop a):=by rw[vS];omega
    rw[e3,List.take_succ_eq_append_getElem hx];simp[show a+(b-a)=b by omega]
def nP (x:Str)(c n:Nat):partsBetween x (occurrences x ⟨#[c]⟩ 0 ↑x n) 1=(iQ c n x.cps.toList).map ofL:=by
 rw[StrLaws.partsBetween_eq,k9];have:=EV x c ↑x n 0 0 (uj _) ()
 rw[HH] at this;rw[this];erw[Jj c n x.cps.toList,p,q,e];rw[e];simp[att]
def Zy {c:Nat}:∀{L:oj Nat}{i:Nat},mH c L i= []->c∉L
 | [],_,_=>by simp
 |a::r,i,h=>by
  by_cases e:a=c
  ·simp[mH,e] at h
  ·rw[mH,A4 e] at h;have:=Zy h;simp[Uo e,this]
def XG:∀(l:oj Str) (k:Nat),im (l.map V.str) (strsFrom k l)
 | [],_=> .nil
 |x::r,k=> .cons [k:1] (XG r (k+1))
def ZI:∀{l:oj Str}{us:oj o6},im (l.map V.str) us->∃ps:oj (Str×Tok),us=strValues ps/\ps.map (·.1)=l
 | [],_,.nil=>[[]:1:1]
 |x::r,_,.cons ⟨t,e⟩ h=>by
  erw[ZI h,ps,O,U];subst e;exact⟨(x,t)::ps,by rw[O];rfl,by rw[uB,U]⟩
def WB (z:Str):¬Vf z<Vf " ":=by
 have h1:Vf " "=1:=by decide+kernel
 rw[h1];unfold Vf;split
 ·omega
 ·split<;>omega
def kE (c:Nat):∀(n:Nat) (L:oj Nat),↑(iQ c n L)<=↑L+1
 |0,L=>by simp[iQ]
 |n+1,[]=>by simp[iQ]
 |n+1,a::r=>by
  by_cases h:a=c
  ·have:=kE c n r;simp[iQ,h];omega
  ·have:=kE c (n+1) r;erw[Jj c (n+1) r,p,q,e];rw[e] at this;simp![iQ,A4 h,e];simp at this⊢;omega
nonrec def spl (n:Nat)(z:Str):oj Str:=(iQ 32 n z.cps.toList).map ofL
def BS (n:Nat)(z:Str):↑(spl n z)<=↑z+1:=by
 unfold spl;rw[ue];have:=kE 32 n z.cps.toList
 simpa [VA] using this
def JL:(" ":Str)=⟨#[32]⟩:=by decide+kernel
variable {z:Str}{n:Nat}
def BR (hn:↑z<=n∨↑z<1∨True)(h:(occurrences z " " 0 ↑z n).isEmpty=v_)(h0:n≠0):spl n z= [z]:=by
 rw[JL,k9,List.isEmpty_iff] at h;have h1:mH 32 z.cps.toList 0= []:=by
  cases e:mH 32 z.cps.toList 0 with
  |nil=>rfl
  |cons a r=>
   rw[e] at h;obtain⟨k,rfl⟩:∃k,n=k+1:=[n-1:()]
   simp at h
 unfold spl;rw[ZQ (Zy h1)];simp[Q7]
section
variable {X:Cx}
inductive OK (x:V)(vs:List V)(H:Hp)(Q:VK):Prop
 |mk (z:_)(_:x= .str z)(_:vs= [.str " "])(_:↑z<=1000)(_:∀p,H p=US->Q (.ref p) (upd H p (.lst ((spl (↑z+1) z).map V.str))))
variable {oq:oj (o3×Obj)}{σ:St}{H:Hp}{s:o7}{Q:VK}{ys:oj V}{its:oj o6}{t':Nat}
def JN (I:#[I])(O:im ys its)(U:↑ys<=UX)(q:∀p,H p=US->Q (.ref p) (upd H p (.lst ys)))(Z:0<t':=by ac_rfl):
  EP X oq σ Q (.ref #[0,s]) {s with heap:=s.heap.push {cls:= .type "list",data:= .seq its.toArray},toks:=t'}:=
 ⟨.ref #[0,s],_,I.lnew O U,1,q _ I.fresh⟩
def Aq:MtM X "str.split" OK:=by
 exists 2,x,vs,v,us,Q,I,Z,rv,h;erw[h,z,rfl,rfl,hz,q];erw[Z,t,rfl];erw[rv.one,u,rfl,t',rfl];have O:↑z<=sizeLine:=by rw[uD];omega
 have one:spl (↑z+1) z= [z]->∀(T:Nat),0<T->EP X oq σ Q (.ref #[0,s]) {s with heap:=s.heap.push {cls:= .type "list",data:= .seq [Vj z t].toArray},toks:=T}:=λe T hT=>by
  rw[e] at q;exact JN (ys:= [V.str z]) I (.cons (show ik (V.str z) _ from[t:1]) .nil) (by show 1<=UX;decide) q
 cases h1:(decide (↑z<(" ":Str).length)||decide (Vf z<Vf " ")) with
 |true=>
  refine vK vA (vJ _ _ _) vx (vV _ _) (rV z " " t t' h1) ?_;have h2:↑z<1:=by
   rw[GV] at h1;rcases h1 with h1|h1
   ·exact uu h1
   ·exact A8 (uu h1) (WB z)
  refine one ?_ s.toks I.tk;have e:z.cps.toList= []:=U4 (by simpa [VA] using h2)
  unfold spl;rw[e,iQ];rw[<-Q7 z,e]
  rfl
 |false=>
  cases U:(occurrences z " " 0 ↑z (↑z+1)).isEmpty with
  |true=>
   refine vK vA (vJ _ _ _) vx (vV _ _) (TB z " " t t' h1 () U) ?_
   exact one (BR (.inr (.inr trivial)) U ()) s.toks I.tk
  |false=>
   have hl:=BS (↑z+1) z;have e:partsBetween z (occurrences z " " 0 ↑z (↑z+1)) (" ":Str).length=spl (↑z+1) z:=by
    rw[JL];exact nP z 32 (↑z+1)
   refine vK vA (vJ _ _ _) vx (vV _ _) (Tw z " " t t' h1 () U O (by rw[e,uD];omega)) ?_
   rw[e];exact JN I (XG _ _) (by rw[ue,uD];omega) q
def xT (x y:Str)(k:Int)(t u v:Tok)(Z:(decide (k< -(2^63:Int))||decide (k≥2^63))=UT)(h1:(decide (↑x<↑y)||decide (Vf x<Vf y))=UT)(hy:(↑y==0)=UT)
  (hf:(occurrences x y 0 ↑x (Gm x k)).isEmpty=v_):Meets («str.split» [[.str x t,.str y u,.int k v]:[]]) (Tz x t):=by
 erw[Fb x y k t u v Z,U,O];refine .of_wp λprog w A R s h=>?_;rw[O,h1,hy,hf];show UU _ _ (do rule "str.split.same-object";ret (<-h_ [.str x t])) _ _ s
 exact A7 (UI (A7 (T9 (uF [0:h]) (by show 1<=UX;decide))))
def j0 (x y:Str)(k:Int)(t u v:Tok)(Z:(decide (k< -(2^63:Int))||decide (k≥2^63))=UT)(h1:(decide (↑x<↑y)||decide (Vf x<Vf y))=v_):
  Meets («str.split» [[.str x t,.str y u,.int k v]:[]]) (Tz x t):=by
 erw[Fb x y k t u v Z,U,O];refine .of_wp λprog w A R s h=>?_;rw[O,h1];show UU _ _ (do rule "str.split.sep-cannot-occur";ret (<-h_ [.str x t])) _ _ s
 exact A7 (UI (A7 (T9 (uF [0:h]) (by show 1<=UX;decide))))
inductive L6 (x:V)(vs:List V)(H:Hp)(Q:VK):Prop
 |mk (z:Str)(n:Nat)(_:x= .str z)(_:vs= [.str " ",.int (n:Int)])(_:↑z<=1000)(_:0<n)(_:n<=1000)(_:∀p,H p=US->Q (.ref p) (upd H p (.lst ((spl n z).map V.str))))
def C9:MtM X "str.split" L6:=by
 exists 2,x,vs,v,us,Q,I,rx,rv,h;erw[h,z,n,rfl,rfl,hz,ac,hn,q];erw[rx,t,rfl];erw[BE rv,u,u',rfl,[t',rfl],[U,rfl]];have aa:↑z<=sizeLine:=by rw[uD];omega
 have hk:(decide ((n:Int)< -(2^63:Int))||decide ((n:Int)≥2^63))=false:=by
  rw[uf (),uf ()];rfl
 have O:Gm z (n:Int)=n:=by
  unfold Gm;rw[A4 ()]
  omega
 have one:spl n z= [z]->∀(T:Nat),0<T->EP X oq σ Q (.ref #[0,s]) {s with heap:=s.heap.push {cls:= .type "list",data:= .seq [Vj z t].toArray},toks:=T}:=λe T hT=>by
  rw[e] at q;exact JN (ys:= [V.str z]) I (.cons (show ik (V.str z) _ from[t:1]) .nil) (by show 1<=UX;decide) q
 cases h1:(decide (↑z<(" ":Str).length)||decide (Vf z<Vf " ")) with
 |true=>
  refine vK vA (vJ _ _ _) vx (F.args_str_split_3 _ _ _) (j0 z " " n t t' U hk h1) ?_;have h2:↑z<1:=by
   rw[GV] at h1;rcases h1 with h1|h1
   ·exact uu h1
   ·exact A8 (uu h1) (WB z)
  refine one ?_ s.toks I.tk;have e:z.cps.toList= []:=U4 (by simpa [VA] using h2)
  obtain⟨j,rfl⟩:∃j,n=j+1:=[n-1:()]
  unfold spl;rw[e,iQ];rw[<-Q7 z,e]
  rfl
 |false=>
  cases Z:(occurrences z " " 0 ↑z (Gm z (n:Int))).isEmpty with
  |true=>
   refine vK vA (vJ _ _ _) vx (F.args_str_split_3 _ _ _) (xT z " " n t t' U hk h1 () Z) ?_
   rw[O] at Z;exact one (BR (.inr (.inr trivial)) Z ()) s.toks I.tk
  |false=>
   have hl:=BS n z;have e:partsBetween z (occurrences z " " 0 ↑z (Gm z (n:Int))) (" ":Str).length=spl n z:=by
    rw[JL,O];exact nP z 32 n
   refine vK vA (vJ _ _ _) vx (F.args_str_split_3 _ _ _) (meets_str_split_sep_max z " " n t t' U hk h1 () Z aa (by rw[e,uD];omega)) ?_
   rw[e];exact JN I (XG _ _) (by rw[ue,uD];omega) q
nonrec def J0 (c:Nat):oj Nat->oj Nat
 | []=> []
 |a::r=>if a=c then [] else a::J0 c r
def oC {c:Nat}:∀{L:oj Nat}{i j:Nat}{r:oj Nat},mH c L i=j::r->i<=j/\J0 c L=L.take (j-i)
 | [],_,_,_,h=>by simp[mH] at h
 |a::q,i,j,r,h=>by
  by_cases e:a=c
  ·rw[mH,A6 e] at h;cases h;exact⟨uj _,by simp[J0,e]⟩
  ·rw[mH,A4 e] at h;erw[oC h,h1,h2];exists ()
   rw[J0,A4 e,h2,show j-i=(j-(i+1))+1 by omega,Hz]
def XO {c:Nat}:∀{L:oj Nat},c∉L->J0 c L=L
 | [],_=>rfl
 |a::r,h=>by
  have h1:a≠c:=λe=>h (by simp[e])
  rw[J0,A4 h1,XO λz=>h (uh _ z)]
nonrec def hd (z:Str):Str:=ofL (J0 32 z.cps.toList)
def DK (I:#[I])(O:im ys its)(U:↑ys<=UX)(q:∀p,H p=US->Q (.ref p) (upd H p (.tup ys)))(Z:0<t':=by ac_rfl):
  EP X oq σ Q (.ref #[0,s]) {s with heap:=s.heap.push {cls:= .type "tuple",data:= .seq its.toArray},toks:=t'}:=
 ⟨.ref #[0,s],_,I.laid (o:= .tup ys) (λ_ _ w=>ug _ w) (uj _) ⟨U,its,O,Gq _ _⟩,1,q _ I.fresh⟩
inductive SV (x:V)(vs:List V)(H:Hp)(Q:VK):Prop
 |mk (z:_)(_:x= .str z)(_:vs= [.str " "])(_:↑z<=1000)(_:∀p a b,H p=US->Q (.ref p) (upd H p (.tup [.str (hd z),.str a,.str b])))
def MZ:MtM X "str.partition" SV:=by
 exists 2,x,vs,v,us,Q,I,rx,rv,h;erw[h,z,rfl,rfl,hz,q];erw[rx,t,rfl];erw[rv.one,u,rfl,t',rfl];have U:↑z<=sizeLine:=by rw[uD];omega
 refine vK F.slot_str_partition (vJ _ _ _) F.entry_str_partition (F.args_str_partition_2 _ _) (meets_str_partition z " " t t' () U) ?_
 cases O:occurrences z " " 0 ↑z 1 with
 |nil=>
  have h0:hd z=z:=by
   rw[JL,k9] at O;have h1:mH 32 z.cps.toList 0= []:=by
    cases e:mH 32 z.cps.toList 0 with
    |nil=>rfl
    |cons a r=>rw[e] at O;simp at O
   unfold hd;rw[XO (Zy h1),Q7]
  refine DK (ys:= [.str (hd z),.str HU,.str HU]) (t':=s.toks+1) I (.cons (show ik (V.str (hd z)) _ from⟨t,by rw[h0]⟩) (.cons (show ik (V.str _) _ from⟨0⟩) (.cons (show ik (V.str _) _ from⟨0⟩) .nil))) (by show 3<=UX;decide) λp Z=>q p _ _ Z
 |cons i r=>
  have h0:hd z=strSub z 0 i:=by
   rw[JL,k9] at O;cases e:mH 32 z.cps.toList 0 with
   |nil=>rw[e] at O;simp at O
   |cons a r'=>
    rw[e] at O;have:a=i:=by simp at O;exact O.1
    subst this;erw[oC e,_,h2];unfold hd;rw[h2,<-Q7 (strSub z 0 a),Fj,HH]
  refine DK (ys:= [.str (hd z),.str " ",.str _]) (t':=s.toks+1+1) I (.cons (show ik (V.str (hd z)) _ from⟨s.toks,by rw[h0]⟩) (.cons (show ik (V.str _) _ from[t':1]) (.cons (show ik (V.str _) _ from[s.toks+1:1]) .nil))) (by show 3<=UX;decide) λp Z=>q p _ _ Z
inductive OM (K:PySem.W.Frag)(x:V)(vs:List V)(H:Hp)(Q:VK):Prop
 |mk (sep:Str)(p:Addr)(l:List Str)(_:x= .str sep)(_:vs= [.ref p])(_:SqL K H p (l.map V.str))(_:(l.map (·.length)).sum+↑l*↑sep<=1000000)(_:Q (.str (V0 sep l)) H)
def Kb:MtM X "str.join" (OM X.K):=by
 exists 2,x,vs,v,us,Q,I,rx,rv,h;erw[h,sep,p,l,rfl,rfl,hp,hz,q];erw[rx,t,rfl];erw[rv.one,u,rfl,ru];cases ru;erw[I.list hp,its,r,pl,hl];erw[ZI r,ps,rfl,Z];have U:tooLong ((ps.map (·.1)).toArray.foldl (·+ ·.length+↑sep) 0)=false:=by
  rw[Z];have:=FX sep l;rw[this];unfold tooLong;refine uf ?_;rw[uD];omega
 refine vK F.slot_str_join (vJ _ _ _) F.entry_str_join (F.args_str_join_2 _ _) (meets_str_join_list sep t p ps U) [pl.isList:?_];have O:(glued sep (ps.map (·.1))).length<=sizeLine:=To U
 match ps,Z,O with
 | [],Z,O=>
  subst Z;exact⟨O,.str _,H,I.tok _,⟨0⟩,q⟩
 | [a],Z,_=>
  subst Z;exact⟨.str _,H,I,[a.2:1],q⟩
 |a::b::r,Z,O=>
  subst Z;exists O,.str _,H,I.tok _,⟨0⟩;rw[TD];exact q
def D8:YN X (.type "int") (λxs H Q=>∃z n,xs= [.str z]/\PySem.intText? z=u_ n/\↑z<=640/\Q (.int n) H):=by
 exists 2,xs,us,Q,I,r,h;erw[h,z,n,rfl,hn,O,q];erw[Xq r,u,rfl,t,rfl];exact PySem.W.KIN.call_text hn O ⟨.int n,H,I.tok _,⟨0⟩,q⟩
end
end L2
namespace L2
open PySem PySem.Spec PyProof.Rows
variable {X:Cx}{oq:oj (o3×Obj)}{σ:St}{H:Hp}{s:o7}{h':o8}{t':Nat}{fp:oj o3}
def Inv.turnedL (I:#[I])(k:∀b o,b∉fp->s.heap.get? b=u_ o->h'.get? b=u_ o)(U:∀b∈fp,sK X oq H b)(ht:0<t':=by ac_rfl):Inv X oq σ H {s with heap:=h',toks:=t'}:=by
 have Z:∀b u,H b=u_ u->b∉fp:=λb u e z=>by
  have:=(U b z).1;rw[this] at e;cases e
 have nL:X.env.locals∉fp:=λz=>(U _ z).2.1 rfl;refine I.step (g':=s.gens) (d':=s.drawn) (ch:=fp) (λb hb=>⟨(U b hb).2.2.2.1,(U b hb).2.1,(U b hb).2.2.2.2.1,(U b hb).2.2.2.2.2⟩) (λb o _ _ O e _=>k b o O e) (λb o _ _ O e _=>[o.slots:k b o O e]) (λ_ _ _ _ n=>n)
  (λb o O e=>[o:k b o O e]) (λ_ _ e=>e) (λ_ _ _ e=>e) (λb ps e=>⟨#[],by rw[e];simp⟩) (λm hm=>?_) (λb u e=>?_) I.bare
 ·erw[hm,o,es,ep,ho,r];exact⟨o,es,ep,k _ o nL ho,r⟩
 ·refine(I.hok b u e).stay (λc v O q=>k c v ?_ q) (λ_ q=>q) λ_ _ q=>q;rcases O with z|z
  ·rw[z];exact Z b u e
  ·exact Z c _ z
def Inv.handed {X:Cx}{oq:oj (o3×Obj)}{σ:St}{H:Hp}{s:o7}{h':o8}{t':Nat}{fp:oj o3}{ys:oj V}{its:oj o6}(I:#[I])(Z:∀b∈fp,sK X oq H b)(hl:∀b∈fp,b<#[0,s])(hv:im ys its)(hz:↑ys<=UX)
  (hn:h'.get? #[0,s]=u_ {cls:= .type "tuple",data:= .seq its.toArray}) (hs:h'.objs.size=#[0,s]+1) (k:∀b o,b∉fp->s.heap.get? b=u_ o->h'.get? b=u_ o) (ht:0<t':=by ac_rfl):
  Inv X oq σ (upd H #[0,s] (.tup ys)) {s with heap:=h',toks:=t'}/\∀b∈fp,sK X oq (upd H #[0,s] (.tup ys)) b:=by
 have I1:Inv X oq σ (upd H #[0,s] (.tup ys)) {s with heap:=s.heap.push {cls:= .type "tuple",data:= .seq its.toArray},toks:=t'}:=
  I.laid (o:= .tup ys) (λ_ _ w=>ug _ w) (uj _) ⟨hz,its,hv,Gq _ _⟩
 have O:∀b∈fp,sK X oq (upd H #[0,s] (.tup ys)) b:=λb U=>by
  erw[Z b U,f0,f1,f2,f3,f4,f5];have:=hl b U;exact⟨by rwa[qk (uR this)],f1,f2,f3,f4,f5⟩
 exists I1.turnedL (h':=h') (t':=t') (λb o U e=>?_) O,O;rcases Heap.get?_push_cases (show(s.heap.push {cls:= .type "tuple",data:= .seq its.toArray}).get? b=u_ o from e) with⟨rfl,rfl⟩|e'
 ·exact hn
 ·exact k b o U e'
nonrec def Itz (K:o0)(a b:o3):It:=
 ⟨λi H=>∃xs ys x y,SqT K H a xs/\SqL K H b ys/\xs[i]? =u_ x/\ys[i]? =u_ y,
  λi H v H'=>∃p x y,v= .ref p/\H p=US/\H'=upd H p (.tup [x,y])/\(∀xs,SqT K H a xs->xs[i]? =u_ x)/\∀ys,SqL K H b ys->ys[i]? =u_ y,
  λi H=>∃xs,SqT K H a xs/\↑xs=i⟩
nonrec def tnZ (a b z p r i j:o3)(k:Nat)(h:o8):Prop:=
 Vk h z p r .none/\V7 h p (.ref i) (.ref j)/\(∃u v,V7 h r u v)/\h.IsTupleIter i a k/\h.IsListIter j b k/\AwZ.Apt z p r i j a b
variable {w:og}{K:o0}
def Eo {P:o9}{aa:oj Expr}{c:Nat}{tp:Pos}(a b z p r i j:o3):NI P w K (.Tuple aa c tp) (Itz K a b) [z,p,r,i,j] z (tnZ a b z p r i j) where
 mem:=by simp
 obj:=λk h st x hx=>by
  erw[st,h1,h2,[u,v,h3],[o4,e4,c4,d4],[o5,e5,c5,d5],D];simp![uG,vf,uO] at hx;rcases hx with rfl|rfl|rfl|rfl|rfl
  ·exact⟨_,h1,λv z=>by cases z⟩
  ·exact⟨_,h2,λv z=>by cases z⟩
  ·exact⟨_,h3,λv z=>by cases z⟩
  ·exact⟨o4,e4,λv z=>by rw[d4] at z;cases z⟩
  ·exact⟨o5,e5,λv z=>by rw[d5] at z;cases z⟩
 keep:=λk h h' st kk=>by
  erw[st,h1,h2,[u,v,h3],[o4,e4,r4],[o5,e5,r5],D];exact⟨kk z (by simp) _ h1,kk p (by simp) _ h2,⟨u,v,kk r (by simp) _ h3⟩,⟨o4,kk i (by simp) _ e4,r4⟩,⟨o5,kk j (by simp) _ e5,r5⟩,D⟩
 item:=by
  intro X hP hw hK O k oq s σ H E I hf st hg;subst hP hw hK;erw[hg,xs,ys,x,y,ha,hb,hx,hy];erw[I.tuple ha,its,ra,pa,za];erw[I.list hb,ak,rb,pb,zb];erw[ra.get hx,ux,ae,af];erw[rb.get hy,uy,ag,ah];erw[st,h1,h2,[u,v,h3],h4,h5,D];have l1:=uI h1;have l2:=uI h2;have l3:=uI h3;have l4:i<#[0,s]:=by erw[h4,o,e,_];exact uI e
  have l5:j<#[0,s]:=by erw[h5,o,e,_];exact uI e
  refine AwZ.zip_go D h1 h2 h3 h4 h5 (show s.heap.IsTuple a its.toArray from pa) pb.isList (x:=ux) (y:=uy) (by simpa using ae) (by simpa using ag) λh' g1 g2 g3 g4 g5 g6 g7=>?_
  have g8:V7 h' p (.ref i) (.ref j):=g7 _ _ D.pz D.pr D.pi D.pj h2;obtain⟨I1,ac⟩:=I.handed (t':=s.toks) (ys:= [x,y]) (its:= [ux,uy]) hf (λc O=>by
   simp![uG,vf,uO] at O;rcases O with rfl|rfl|rfl|rfl|rfl<;>assumption) (.cons af (.cons ah .nil)) (by show 2<=UX;decide) g5 g6 (λc o O e=>by
    simp![uG,vf,uO,UR] at O;exact g7 c o O.1 O.2.2.1 O.2.2.2.1 O.2.2.2.2 e)
  exists 0,wpAny_letOwnedTupleGo_zip (s:={s with heap:=h'}) g1 λad z2 s2=>?_
  have U:∀c o,c≠z->h'.get? c=u_ o->ad.get? c=u_ o:=λc o O e=>s2.extBut c o O e;exists .ref #[0,s],_,I1.turnedL (fp:= [z]) (h':=ad) (t':=s.toks) (λc o O e=>U c o (by simpa using O) e) (λc O=>ac c (by simp at O;simp[O])),1,⟨_,x,y,1,I.fresh,1,λzs Z=>?_,λzs Z=>?_⟩,⟨z2,U _ _ D.pz g8,[_:_:U _ _ D.rz g2],?_,?_,D⟩,λc O=>(ac c O).1
  ·rwa[I.tuple_inj Z ha]
  ·rwa[I.list_inj Z hb]
  ·erw[g3,o,e,q];exact[o:U _ _ D.iz e:q]
  ·erw[g4,o,e,q];exact[o:U _ _ D.jz e:q]
 done:=by
  intro X hP hw hK O k oq s σ H E I hf st hg;subst hP hw hK;erw[hg,xs,ha,hx];erw[I.tuple ha,its,ra,pa,za];have hl:=↑ra;erw[st,h1,h2,[u,v,h3],h4,h5,D];refine AwZ.zip_stop (A:=X.A) (I.ok.hd O) D h1 h2 h4 (show s.heap.IsTuple a its.toArray from pa) (by simp;omega) λh' kk=>[1:?_]
  exact I.turnedL (t':=s.toks) (λc o O e=>by
   simp![uG,vf,uO,UR] at O;exact kk c o O.1 O.2.2.1 O.2.2.2.1 O.2.2.2.2 e) hf
 self:=λ_ _ _ _ _ st h=>Fq st.1 h
section
variable {X:Cx}
variable {n:Nat}
def PX {a b:Nat}(ha:a<n)(O:b<n):AwZ.Apt (n+4) (n+2) (n+3) n (n+1) a b:=by
 constructor<;>exact(show _≠((_:Nat)) by omega)
def Nu {x:Nat}(h:x=n+4∨x=n+2∨x=n+3∨x=n∨x=n+1):n<=x:=by omega
nonrec def Abs (K:o0)(ta:TA):TI:=λσ H R=>ta σ H λvs H1=>∃a b xs ys,vs= [.ref a,.ref b]/\SqT K H1 a xs/\SqL K H1 b ys/\R (Itz K a b) H1
def OO {U:oj Expr}{c:Nat}{tp p pos:Pos}{e1 O:Expr}{ta:TA}(hg:Gl X "zip")(hm:X.mg "zip"=US)(ha:PA X [e1,O] ta)(hs:UY [e1,O] X.env= [(UT,eval e1 X.env),(UT,eval O X.env)])(Z:UY [O] X.env= [(UT,eval O X.env)]):
  PI X (.Tuple U c tp) (.Call (.Name "zip" p) [e1,O] [] pos) (Abs X.K ta):=by
 exists 2,R,I,h;refine Call_ (WF I hg hm boot_zip (vP (thn (ha pos oq s σ H _ I h) λus s1 zq=>?_) (by rw[hs,Z]) (by rw[Z];rfl)));erw[zq,vs,H1,I1,r1,q1]
 erw[q1,a,b,xs,ys,e,hA,hB,q];subst e;erw[BE r1,u,u',rfl,ru,ac];cases ru;cases ac;erw[I1.tuple hA,its,ra,pa,za];erw[I1.list hB,ad,rb,pb,zb];have la:a<#[0,s1]:=by erw[id pa,o,e,_];exact uI e
 have lb:b<#[0,s1]:=by erw[id pb,o,n,e,_];exact uI e
 refine AwZ.zip_call (show s1.heap.IsTuple a its.toArray from pa) pb.isList λh2 g1 g2 g3 g4 g5 g6 g7=>?_
 refine Fq (s:={s1 with heap:=h2}) g1 ?_
 exists _,[#[0,s1]+4,#[0,s1]+2,#[0,s1]+3,#[0,s1],#[0,s1]+1],_,_,H1,1,I1.kept (t':=s1.toks) g7,Eo a b _ _ _ _ _,⟨g1,g2,[_:_:g3],g4,g5,?_⟩,λx hx=>?_,q
 ·exact PX la lb
 ·have aa:#[0,s1]<=x:=by
   simp![uG,vf,uO] at hx;exact Nu hx
  exact I1.fpOk aa (I1.hok.fresh aa)
nonrec def Ee (K:o0)(w:og)(a:o3):Prop:=(a==Ve)=UT/\∃es n,K.lookup a=u_ ⟨.type "dict",US,.dict es n,#[]⟩/\PySem.W.KeysLit w.params es.toList
inductive SW (K:PySem.W.Frag)(w:World)(x:V)(y:V)(H:Hp)(Q:VK):Prop
 |mk (z:_)(a:_)(r:_)(_:x= .str z)(_:y= .ref a)(_:Ee K w a)(_:PySem.W.nsIn K a z=u_ r)(_:Q (.bl (!r.isSome)) H)
def Mj:OpR X (V4 .NotIn) (SW X.K X.w):=by
 exists 2,x,y,v,u,Q,I,U,Z,h;erw[h,z,a,r,rfl,rfl,[hs,es,n,O,hk],hn,q];erw[U,t,rfl];cases Z;have hm:=PySem.W.mapOf_K (prog:=X.prog) (w:=X.w) I.kIn O hk;refine Ts (T5 X.prog X.w z t) hs hm ⟨.bl (!r.isSome),H,I.tok _,?_,q⟩;rw[PySem.W.find_K O hn]
 rfl
inductive Abk (K:PySem.W.Frag)(w:World)(x:V)(y:V)(H:Hp)(Q:VK):Prop
 |mk (z:_)(a:_)(u:_)(v:_)(_:x= .ref a)(_:y= .str z)(_:Ee K w a)(_:PySem.W.nsIn K a z=u_ (u_ u))(_:ik v u)(_:Q v H)
def AaS:IxR X (Abk X.K X.w):=by
 intro value slice oq s σ H x y v u Q I U Z h hs;erw[h,z,a,u',v',rfl,rfl,[_,es,n,O,hk],hn,hr,q];erw[Z,t,rfl];cases U;have hm:=PySem.W.mapOf_K (prog:=X.prog) (w:=X.w) I.kIn O hk;exact GG hm.typeIs slot_dict_getitem.lookup (Rg (T5 X.prog X.w z t) hm (PySem.W.find_K O hn) ⟨v',H,I.tok _,hr,q⟩) hs
end
section
variable {X:Cx}{K:o0}
def kY (h:X.K=K):YN X (.builtin "len") (λxs H Q=>∃p ys,xs= [.ref p]/\(SqL K H p ys∨SqT K H p ys)/\Q (.int ↑ys) H):=by subst h;exact qN
def Mg {es:oj Expr}{k:Nat}{t:TGs}{n:Nat}{pos:Pos}(U:X.K=K)(Z:X.calm=v_)(h:PGs X es t)
  (hn:↑(Vs es X.env)=n) (O:(Vs es X.env).findIdx? (·.1)=US):PG X (.Tuple es k pos) (Aal K n t):=by subst U;exact wA Z h hn O
end
def JK {lo:Int}{n:Nat}{L:o3}{H1:Hp}{te:TE}{tl:St}{Q:VK}(C:Nat->oj V->Hp->Prop)(hn:n<=UX)(h0:C 0 [] (upd H1 L (.lst [])))
  (Z:∀i ys H,i<n->C i ys H->H L=u_ (.lst ys)->↑ys<=i->∀R:VK,(∀y H4,H4 L=u_ (.lst ys)->C (i+1) (ys++ [y]) (upd H4 L (.lst (ys++ [y])))->R y H4)->te (u_ (.int (lo+(i:Int)))::tl) H R)
  (hQ:∀ys H,C n ys H->H L=u_ (.lst ys)->Q (.ref L) H):Di L (Itr lo n) (ji 0) AW te (US::tl) H1 Q:=by
 exists n,λi σ ys H=>(∃x,σ=x::tl)/\C i ys H,hn,[[US:1]:h0],?_,?_
 ·rintro i σ ys H hi ⟨⟨x,rfl⟩,O⟩ U hy;exists hi;rintro x' H' ⟨rfl,rfl⟩;dsimp![ji,AW,G7];rw[A6 rfl];exact Z i ys H' hi O U hy _ λy H4 e c=>[e:⟨0⟩:c]
 ·rintro σ ys H ⟨_,O⟩ U;exact[uj _:hQ ys H O U]
def Pi {K:o0}{a b A:o3}{H1:Hp}{te:TE}{tl:St}{Q:VK}{xs ys:oj V}(f:Nat->D)(ha:∀H,ic H1 H->SqT K H a xs)(hb:∀H,ic H1 H->SqL K H b ys)(ac:↑xs=↑ys)(hn:↑xs<=UX)(hA:H1 A=US)
  (Z:∀i x y H (R:VK),xs[i]? =u_ x->ys[i]? =u_ y->ic H1 H->(∀v H',ic H H'->Is H' (f i) v->R v H')->te (u_ x::u_ y::tl) H R)
  (hQ:∀H' vs,ic H1 H'->H' A=u_ (.lst vs)->L2.IsL H' ((V1 ↑xs).map f) vs->Q (.ref A) H'):Di A (Itz K a b) (Aal K 2 (Np (ji 0) (Np (ji 1) AaU))) AW te (US::US::tl) H1 Q:=by
 exists ↑xs,λi σ us H=>(∃u v,σ=u::v::tl)/\L2.IsL H ((V1 i).map f) us/\ic H1 H,hn,[[US:US:1]:1:qf hA _],?_,?_
 ·rintro i σ us H hi ⟨⟨u,v,rfl⟩,hl,sm⟩ O ad;have hx:xs[i]? =u_ xs[i]:=uq hi;have hy:ys[i]? =u_ (ys[i]'()):=uq _
  exists ⟨xs,ys,_,_,ha H sm,hb H sm,hx,hy⟩,λx H' y=>?_;erw[y,p,x',y',rfl,hp,rfl,e1,e2];have e1:=e1 xs (ha H sm);have e2:=e2 ys (hb H sm);have s2:ic H (upd H p (.tup [x',y'])):=qf hp _;exists p,0,SqT.of qg,1,x',0,y',0,1;dsimp![AW];rw[A6 rfl];refine Z i x' y' _ _ e1 e2 (sm.trans s2) λy4 H4 U aa=>⟨U _ _ (s2 _ _ O),[_:0],?_,λb o e=>?_⟩
  ·have t:Tk H4 (upd H4 A (.lst (us++ [y4]))):=Tk.updL (U _ _ (s2 _ _ O));rw[Hm,uz];exact((hl.mono (s2.trans U).tk).mono t).append (IsL.one (aa.mono t))
  ·rw[qk (ql e hA)];exact U b o (s2 b o (sm b o e))
 ·rintro σ us H ⟨_,hl,sm⟩ O;exact[[xs:ha H sm:1]:hQ H us sm O hl]
def zk (z:Str)(l:oj Str):inV (.str z) (l.map V.str)=decide (z∈l):=by
 unfold inV;rw[tV,vH,Tp,uZ];constructor
 ·rintro⟨x,U,e⟩;have O:(x==z)=true:=e;rw[beq_iff_eq] at O;exact O▸U
 ·intro h;exact⟨z,h,by show(z==z)=v_;exact beq_self_eq_true z⟩
def Xh (l:oj Str):(l.map V.str).all Zb=true:=by
 rw[Uw,U5];intro x _
 rfl
inductive Pt where
 |s (z:Str)|n (i:Int)
nonrec def Pt.d:Pt->D
 | .s z=> .str z
 | .n i=> .int i
nonrec def Pt.t:Pt->Str
 | .s z=>z
 | .n i=>V2 i
inductive Kd where
 |box|line|words
 deriving DecidableEq
nonrec def Kd.t:Kd->Str
 | .box=>"box"
 | .line=>"line"
 | .words=>"words"
nonrec def BX:oj Str:= ["a","b","c","d","e","f","g","h"]
nonrec def FRM:oj (Str×oj Kd):= [("text",[.box,.words]),("self",[.box]),("copy",[.box,.box]),("row",[.box]),("put",[.box,.box]),("join",[.box,.box]),("first",[.box,.box]),("rest",[.box,.box]),
 ("size",[.box,.box]),("cut",[.box,.box,.box]),("glue",[.box,.box,.box]),("ask",[.box,.box]),("has",[.box,.box]),("names",[.box,.box]),("go",[.line]),("like",[.box,.box,.line]),
 ("rowed",[.box,.line]),("none",[.box,.line]),("say",[.box]),("fault",[])]
nonrec def ON (n m:Nat):Kd->Pt->Prop
 | .box,.s z=>z∈BX
 | .line,.n i=>1<=i/\i<=n
 | .words,.s z=>↑z<=m/\z.cps.toList.all Qz=v_
 |_,_=>False
nonrec def xO (n m:Nat):oj Kd->oj Pt->Prop
 | [],[]=>True
 |k::ks,p::ps=>ON n m k p/\xO n m ks ps
 |_,_=>False
noncomputable abbrev Rw:=Str×oj Pt
nonrec def jU (n m:Nat)(r:Rw):Prop:=∃ks,(r.1,ks)∈FRM/\xO n m ks r.2
nonrec def txs (r:Rw):oj Str:=r.1::r.2.map Pt.t
nonrec def y9 (r:Rw):Str:=V0 " " (txs r)
nonrec def rowD (r:Rw):D:= .tup [.str r.1,.tup (r.2.map Pt.d)]
def Js:∀(x y:Str) (r:oj Str),(V0 " " (x::y::r)).cps.toList=x.cps.toList++32::(V0 " " (y::r)).cps.toList:=by
 intro x y r;show((x.cps++(" ":Str).cps)++(V0 " " (y::r)).cps).toList=_;rw[tN,tN,JL];simp
noncomputable abbrev Bz (z:Str):Prop:=32∉z.cps.toList
def W5:∀(l:oj Str) (z:Str) (n:Nat),(∀p∈l,Bz p)->(n=0∨Bz z)->spl (↑l+n) (V0 " " (l++ [z]))=l++ [z]
 | [],z,n,_,hz=>by
  show spl (0+n) z= [z];rw[Hu];unfold spl;rcases hz with rfl|hz
  ·rw[iQ];show [ofL z.cps.toList]= [z];rw[Q7]
  ·rw[ZQ hz];show [ofL z.cps.toList]= [z];rw[Q7]
 |p::l,z,n,hl,hz=>by
  have O:=W5 l z n (λq U=>hl q (uh _ U)) hz;have Z:Bz p:=hl p ui;obtain⟨y,r,e⟩:∃y r,l++ [z]=y::r:=by cases l<;>exact[_:0]
  show spl ((↑l+1)+n) (V0 " " (p::(l++ [z])))=p::(l++ [z]);rw[e] at O⊢;unfold spl at O⊢;rw[Js,show ↑l+1+n=(↑l+n)+1 by omega,AL Z,uB,O,Q7]
def Nk (w:Str)(r:oj Str)(h:Bz w):hd (V0 " " (w::r))=w:=by
 have O:∀(p q:oj Nat),32∉p->J0 32 (p++32::q)=p:=by
  intro p
  induction p with
  |nil=>intro q _;simp[J0]
  |cons a p U=>
   intro q h;have h1:a≠32:=λe=>h (by simp[e])
   show J0 32 (a::(p++32::q))=a::p;rw[J0,A4 h1,U q λz=>h (uh _ z)]
 cases r with
 |nil=>
  show ofL (J0 32 w.cps.toList)=w;rw[XO h,Q7]
 |cons y r=>
  unfold hd;rw[Js,O _ _ h,Q7]
def Au:∀(l:oj Str),l≠ []->(V0 " " l).length+1=(l.map (·.length)).sum+↑l
 | [],h=>A8 rfl h
 | [x],_=>by simp[V0]
 |x::y::r,_=>by
  have O:=Au (y::r) (by simp)
  have e:(V0 " " (x::y::r)).length=↑x+(1+(V0 " " (y::r)).length):=by
   have:=A9 VD (Js x y r);rw[uA,um] at this;simp![vk] at this;show(V0 " " (x::y::r)).cps.size=_;rw[this];show x.cps.size+((V0 " " (y::r)).cps.size+1)=x.cps.size+(1+(V0 " " (y::r)).cps.size);omega
  rw[e,uB,Ul,um];omega
variable {i:Int}
def nW (h1:1<=i)(h2:i<=40):↑(V2 i:Str)<=2/\Bz (V2 i:Str)/\(V2 i:Str).cps.toList.all Qz=true:=by
 obtain⟨k,rfl⟩:∃k:Fin 41,i=((k.val:Nat):Int):=⟨[i.toNat:()],by simp;omega⟩
 have O:∀k:Fin 41,↑(V2 ((k.val:Nat):Int):Str)<=2/\decide (Bz (V2 ((k.val:Nat):Int):Str))=v_/\(V2 ((k.val:Nat):Int):Str).cps.toList.all Qz=true:=by decide+kernel
 erw[O k,a,b,c];exact[a:uu b:c]
def kn (h1:1<=i)(h2:i<=40):PySem.intText? (V2 i:Str)=u_ i:=PySem.W.KIN.num_reads () ()
variable {z:Str}
def KW (h:z∈BX):↑z=1/\Bz z/\z.cps.toList.all Qz=true:=by
 have O:∀z∈BX,↑z=1/\decide (Bz z)=v_/\z.cps.toList.all Qz=true:=by decide+kernel
 erw[O z h,a,b,c];exact[a:uu b:c]
def BD:∀x∈FRM,decide (Bz x.1)=v_/\x.1.cps.toList.all Qz=true:=by decide+kernel
def Nr:∀x∈FRM,(decide (Kd.words∈x.2)=UT)∨x=(("text":Str),[Kd.box,Kd.words]):=by decide+kernel
def DF:∀x∈FRM,∀y∈FRM,x.1=y.1->x=y:=by decide+kernel
variable {n:Nat}
def nJ {m:Nat}(hn:n<=40){k:Kd}{p:Pt}(h:ON n m k p)(O:k≠ .words):Bz p.t:=by
 cases k<;>cases p<;>simp![ON] at h
 ·exact(KW h).2.1
 ·exact(nW h.1 ()).2.1
 ·exact A8 rfl O
def zu {n m:Nat}:∀{ks:oj Kd}{ps:oj Pt},xO n m ks ps->↑ps=↑ks
 | [],[],_=>rfl
 |_::_,_::_,h=>by rw[um,um,zu h.2]
 | [],_::_,h=>h.elim
 |_::_,[],h=>h.elim
def Wo {n m:Nat}(hn:n<=40):∀{ks:oj Kd}{ps:oj Pt},xO n m ks ps->Kd.words∉ks->∀p∈ps.map Pt.t,Bz p
 | [],[],_,_=>λp O=>by simp at O
 |_::_,_::_,h,hk=>λp O=>by
  rw[uB] at O;rcases Aa.mp O with rfl|O
  ·exact nJ hn h.1 λe=>hk (by simp[e])
  ·exact Wo hn h.2 (λz=>hk (uh _ z)) p O
 | [],_::_,h,_=>h.elim
 |_::_,[],h,_=>h.elim
variable {r:Rw}
def M9 {m:Nat}(h:jU n m r):hd (y9 r)=r.1:=by
 erw[h,ks,O,U];exact Nk _ _ (uu (BD _ O).1)
variable {ks:oj Kd}
def Iv {m:Nat}(hn:n<=40)(hk:(r.1,ks)∈FRM)(Z:xO n m ks r.2):spl (if Kd.words∈ks then ↑ks else(y9 r).length+1) (y9 r)=txs r:=by
 have hw:Bz r.1:=uu (BD _ hk).1;by_cases h:Kd.words∈ks
 ·rw[A6 h];rcases Nr _ hk with e|e
  ·simp at e;exact A8 h e
  ·have e1:ks= [.box,.words]:=A9 Prod.snd e;subst e1;erw[r,w,ps]
   match ps,Z with
   | [p,q],Z=>
    have:=W5 [w,p.t] q.t 0 (λz hz=>by
     simp![uG,vf,uO] at hz;rcases hz with rfl|rfl
     ·exact hw
     ·exact nJ hn Z.1 ()) (.inl rfl)
    exact this
 ·rw[A4 h];have hf:∀p∈txs r,Bz p:=λp U=>by
   rcases Aa.mp U with rfl|U
   ·exact hw
   ·exact Wo hn Z h p U
  rcases FY (txs r) with e|⟨l,z,e⟩
  ·simp[txs] at e
  ·rw[rO] at e;have O:=Au (txs r) (by simp[txs])
   unfold y9;rw[e] at hf O⊢;have hl:↑l<=(V0 " " (l++ [z])).length:=by
    rw[uA] at O;simp![um,UD] at O;omega
   have:=W5 l z ((V0 " " (l++ [z])).length+1-↑l) (λq hq=>hf q (vh _ hq)) (.inr (hf z (by simp)))
   rw[show ↑l+((V0 " " (l++ [z])).length+1-↑l)=(V0 " " (l++ [z])).length+1 by omega] at this
   exact this
abbrev VE:oj o6:= [.type "ValueError",.type "Exception",.type "BaseException",.type "object"]
nonrec def CX1 (P:o9)(w:og):CXT:=λouter H s E e s'=>∃(ea C:o3) (a0:o6) (H':Hp) (B:o8),e= .ref ea/\s'.os=s.os/\Vv s'.gens/\0<s'.toks/\Un (frs outer) [] H H' s.heap s'.heap/\HOk P w H' B/\
 rN B outer ea (.ref C) a0 s'.heap/\(∀b o,s.heap.get? b=u_ o->b∉frs outer->∃o',B.get? b=u_ o')/\E (.ref ea) (u_ C) H'
variable {h:o8}{C:o3}
def PR {bmB:oj o6}{newId:String}(X:K.In h)(q:PySem.W.excIn K C bmB newId=v_):
  ∃bm N nm Z bs hdct sn sub ab col dd k0 k1 k2 k3 k5 mN,h.get? C=u_ (excClassObj nm Z C N bs bm hdct sn sub ab col dd k0 k1 k2 k3 k5 newId)/\h.Ns N mN/\mN "__init__"=US/\OwnTail h bmB bm:=by
 unfold PySem.W.excIn at q;split at q
 ·rename_i dd cd sl ho
  split at q
  ·rename_i C' bm k0 k1 k2 k3 n k5 hm hs
   simp![uC,beq_iff_eq,Bool.not_eq_true'] at q;erw[q,[[[[rfl,rfl],O],ht],hok],U];erw[cd,nm,bs,aa,ns,Z,hd,sn,sub,ab,col,ac];dsimp only at hm O hok U;subst hm O;obtain⟨l⟩:=sl;simp only at hs;subst hs;exact⟨bm,ns,nm,Z,bs,hd,sn,sub,ab,col,dd,k0,k1,k2,k3,k5,_,X _ _ ho,.of_isNs (PySem.W.isNs_of_in X hok),PySem.W.nsMap_none_of_in X hok U,PySem.W.tail_of_in X ht⟩
  ·cases q
 ·cases q
def oJ {h base B:o8}:∀{l:oj Env},h.FunFrames base l->(∀b∈frs l,B.get? b=US)->h.FunFrames B l
 | [],_,_=>trivial
 |env::r,⟨hk,⟨L,o,hf,hn,ho,hd⟩,hr⟩,hB=>by
  have e:frs (env::r)=L::frs r:=by unfold frs;rw[vO,hf]
  rw[e] at hB;exact[hk:⟨L,o,hf,hB L ui,ho,hd⟩:oJ hr λb O=>hB b (uh _ O)]
nonrec def Oh (E:XK)(C:o3)(ta:TE):TS:=λ_ σ H=>Ll ta Sh σ H λvs H1=>↑vs=1/\∀e,E (.ref e) (u_ C) H1
def Ag {P:o9}{w:og}{K:o0}{mg:Str->om o6}{base:o8}{N:oj Str}{qual:Str}{scope:V9}{f:o3}{U:o6}{A:oh}{outer:oj Env}{s₀:o7}{H₀:Hp}{E:XK}
  {x:Str}{C:o3}{np cpos pos:Pos}{aa:Expr}{ta:TE} (hx:PySem.W.excIn K C VE "ValueError.__new__"=v_) (hg:Gl (cxOf (CX1 P w) P w K mg base N qual scope f U A outer s₀ H₀ E) x) (hm:mg x=u_ (.ref C))
  (ha:PE (cxOf (CX1 P w) P w K mg base N qual scope f U A outer s₀ H₀ E) aa ta) (hd:(x==("__debug__":Str))=UT)
  (hs:UY [aa] (U_ qual scope #[0,s₀] f U)= [(UT,eval aa (U_ qual scope #[0,s₀] f U))]):
  PS (cxOf (CX1 P w) P w K mg base N qual scope f U A outer s₀ H₀ E) (.Raise (u_ (.Call (.Name x np) [aa] [] cpos)) US pos) (Oh E C ta):=by
 exists 2,D,I,h;erw[PR I.mod.kin hx,bm,Nn,nm,q,bs,hdct,sn,sub,ab,col,dd,k0,k1,k2,k3,k5,mN,hC,hN,aq,T];have hT:bm.contains (.type "BaseException")=true:=T.hasType ()
 refine wpAny_Raise_call_subT (C:=C) (nm:=nm) (q:=q) (N:=Nn) (bs:=bs) (bm:=bm) (hdct:=hdct) (sn:=sn) (sub:=sub) (ab:=ab) (col:=col) (dd:=dd) (k0:=k0) (k1:=k1) (k2:=k2) (k3:=k3) (k5:=k5)
  (mN:=mN) F.excBase_ValueError hT (I.ok.hd rfl) (by show(V6 cpos (UY [aa] (U_ qual scope #[0,s₀] f U))).any (·.1)=UT;rw[hs];rfl) aq (kr I hg hm [1:?_] hd)
 have au:PA (cxOf (CX1 P w) P w K mg base N qual scope f U A outer s₀ H₀ E) [aa] (Ll ta Sh):=qb ha qd hs;have hp:=au cpos oq s σ H (λvs H1=>↑vs=1/\∀e,E (.ref e) (u_ C) H1) I h;show UU _ _ (evalArgs (.ref C) v_ (V6 cpos (UY [aa] (U_ qual scope #[0,s₀] f U))) []) _ _ s;have aw:UY [aa] (cxOf (CX1 P w) P w K mg base N qual scope f U A outer s₀ H₀ E).env= [(UT,eval aa (U_ qual scope #[0,s₀] f U))]:=hs;rw[aw] at hp;rw[hs];refine Up (vI hp (λvs s₂ h₂=>?_) λ_ _ y=>y);erw[h₂,ws,H2,I2,r2,q2];erw[q2,hl,q2];have bk:=I2.bk;have ax:↑vs<=sizeLine:=by rw[<-↑r2,hl];decide
 exists 1,ax,bk _ _ hC,hN.keeps bk,T.keeps bk,λh' e ad=>?_;show UU (V8 P w) (A.deeper (U_ qual scope #[0,s₀] f U)) (tU (U_ qual scope #[0,s₀] f U) (.ref e)) (λ_ ag=>CX1 P w outer H₀ s₀ E (.ref e) ag) (λe' ag=>CX1 P w outer H₀ s₀ E e' ag) _;have ay:(A.deeper (U_ qual scope #[0,s₀] f U)).frames=u_ (U_ qual scope #[0,s₀] f U::outer):=I2.ok.frames;have ak:s₂.heap.FunFrames base (U_ qual scope #[0,s₀] f U::outer):=I2.stack;have ah:∀b∈frs (U_ qual scope #[0,s₀] f U::outer),H2 b=none:=I2.stkFree;have al:frs (U_ qual scope #[0,s₀] f U::outer)=#[0,s₀]::frs outer:=rfl;have ap:#[0,s₀]<=#[0,s₀]:=I2.ok.above;have O:Un (frs outer) [] H₀ H2 s₀.heap s₂.heap:=I2.base;refine wpAny_leaves_madeW (base:=TI.gone s₂.heap (frs (U_ qual scope #[0,s₀] f U::outer))) (h:=s₂.heap) (L:=#[0,s₀]) ay rfl (λb o e=>(TI.gone_some e).2) (oJ ak λb Z=>TI.gone_none Z) ad λam t af aB _ aA=>?_;have ae:∀b o,b∉frs (U_ qual scope #[0,s₀] f U::outer)->s₂.heap.get? b=u_ o->am.get? b=u_ o:=λb o Z e=>af.1 b o (by rwa[TI.gone_get Z])
 have slots:∀b o,s₂.heap.get? b=u_ o->(∀vs,o.data≠ .fields vs)->∃sl,am.get? b=u_ {o with slots:=sl}:=λb o e hn=>aA b o (ad.keeps b o e) hn
 have nd:∀b∈frs outer,∀o,s₂.heap.get? b=u_ o->∀vs,o.data≠ .fields vs:=λb Z o e=>by
  obtain⟨_,o',e',hn⟩:=ak.mem (show b∈(U_ qual scope #[0,s₀] f U::outer).filterMap (·.frame) from by rw[show(U_ qual scope #[0,s₀] f U::outer).filterMap (·.frame)=frs (U_ qual scope #[0,s₀] f U::outer) from rfl,al];exact uh _ Z)
  rw[e] at e';cases e';exact hn
 have ac:∀b o,s₀.heap.get? b=u_ o->b∉frs outer->b∉frs (U_ qual scope #[0,s₀] f U::outer):=λb o e Z hm=>by
  rw[al] at hm;rcases Aa.mp hm with rfl|hm
  ·exact A8 (uI e) (vF _)
  ·exact Z hm
 exists e,C,.ref t,H2,0,I2.os,I2.bare,(by first|exact I2.tk|exact V5 I2.tk (UP _ _)|((try dsimp only);first|assumption|exact Inv.tk (by assumption)|exact Hv _|exact V5 (Inv.tk (by assumption)) (by assumption)|exact Nat.add_pos_left (Inv.tk (by assumption)) _|omega)),⟨?_,?_,O.free,?_,O.tups,O.frzs,O.tbls⟩,?_,af,?_,q2 e
 ·intro b o e1 hn Z hx;exact ae b o (ac b o e1 Z) (O.keep b o e1 hn Z hx)
 ·intro b o e1 hn Z hx;erw[O.slot b o e1 hn Z hx,sl,e2];erw[slots b _ e2 (nd b Z _ e2),ao,e3];exact[ao:e3]
 ·intro b o e1 hx;erw[O.there b o e1 hx,o',e2];by_cases Z:b∈frs outer
  ·erw[slots b _ e2 (nd b Z _ e2),ao,e3];exact[_:e3]
  ·exact[o':ae b o' (ac b o e1 Z) e2]
 ·intro b u Z;refine(I2.hok b u Z).stay (λc v hc q=>?_) (λ_ q=>q) λ_ _ q=>q;rw[TI.gone_get]
  ·exact q
  ·intro hm;have hn:=ah c hm;rcases hc with z|z
   ·rw[z,Z] at hn;cases hn
   ·rw[z] at hn;cases hn
 ·intro b o e1 Z;obtain⟨o',e2⟩:=O.there b o e1 (by simp)
  exact⟨o',by rwa[TI.gone_get (ac b o e1 Z)]⟩
def Fun.okX {P:o9}{w:og}{K:o0}{mg:Str->om o6}{base:o8}{x qual:Str}{st:Stmt}{f:o3}{fd:UW}{N ps:oj Str}{k:Nat}{sp:Sp}(F:Fun K x qual st f fd)(S:qv N ps (qi st))(len:∀vs H Q E,sp vs H Q E->↑vs=↑ps)
  (O:∀(cdv:o6) (A:oh) (outer:oj Env) (s:o7) (H:Hp) (vs:oj V) (Q:VK) (E:XK),mq k (A.deeper (U_ qual (qi st) #[0,s] f cdv))->sp vs H Q E->
   ∃t,PSs (cxOf (CX1 P w) P w K mg base N qual (qi st) f cdv A outer s H E) (yV st) t/\t {nx:=λ_ H'=>Q .non H',rt:=Q} (W9 N vs) H):FnOk P w K mg base (CX1 P w) (k+1) f fd ps sp:=by
 erw[F.ex,oc,od,kV,doc,pm,an,cdv,ct,osl,rfl,lk,U];exact PD lk U S len λA outer s H vs Q E hr Z=>O cdv A outer s H vs Q E hr Z
end L2
namespace HT
open PySem PyProof.Rows
section
variable {prog:o9}{w:og}{A:oh}{E:o6->o7->Prop}{s:o7}
def getItem_tuple_all {t sl:o3}{items:Array o6}{vl vu:o6}{lo hi:om Int}{Q:o6->o7->Prop}(O:gT s.heap t items)(hs:s.heap.IsSliceOf sl vl vu .none)(pl:Vt vl lo)(pu:Vt vu hi)
  (hw:sIx items.size 0 lo=0/\sIx items.size items.size hi=items.size) (h:Q (.ref t) s):UU #[w,w] A (Vm (.ref t) (.ref sl)) Q E s:=by
 erw[id hs,os,Z,aa,ad];have ac:s.TypeIs (.ref sl) "slice":=[os:Z:aa];unfold Vm
 try with_reducible refine Vq ?_
 first|refine A7 (uF ?_)|skip
 refine A7 (rp O.typeIs () ?_)
 refine A7 (vz (name:=gU "__getitem__") O.typeIs vC
  (vT vC O.typeIs FJ ?_ (Tv _ _)))
 show UU _ _ (Tc (.ref t)>>=_) _ _ s;refine A7 (rn O ?_);refine A7 (V_ ac ?_);rw[A6 ()]
 refine A7 (jJ hs pl pu ?_);have U:((((sIx items.size 0 lo:Nat):Int)==0&&(1:Int)==1&&(sIx items.size items.size hi-sIx items.size 0 lo)==items.size)=v_):=by
  rw[hw.1,hw.2];simp
 show UU _ _ (if(((sIx items.size 0 lo:Nat):Int)==0&&(1:Int)==1&&(sIx items.size items.size hi-sIx items.size 0 lo)==items.size)=v_ then _ else _) _ _ s
 rw[A6 U];unfold RB;refine A7 (A7 (V_ O.typeIs (uF ?_)));rw[A6 ()]
 exact A7 (UI (uF [0:uF h]))
end
end HT
namespace L2
open PySem PySem.Spec PyProof.Rows
section
variable {X:Cx}
inductive ST (K:PySem.W.Frag)(x:V)(lo:Option Int)(hi:Option Int)(H:Hp)(Q:VK):Prop
 |mk (a:_)(xs:_)(_:x= .ref a)(_:SqT K H a xs)(_:(HT.sIx ↑xs 0 lo=0/\HT.sIx ↑xs ↑xs hi=↑xs->Q (.ref a) H))(_:(¬(HT.sIx ↑xs 0 lo=0/\HT.sIx ↑xs ↑xs hi=↑xs)->∀p,H p=US->Q (.ref p) (upd H p (.tup (AK xs lo hi)))))
def pw:SlR X (ST X.K):=by
 exists 2,x,v,vl,vu,lo,hi,sl,Q,I,Z,hs,pl,pu,h;erw[h,a,xs,rfl,hx,q1,q2];by_cases U:HT.sIx ↑xs 0 lo=0/\HT.sIx ↑xs ↑xs hi=↑xs
 ·cases Z;erw[I.tuple hx,its,r,ht,hz];have O:its.toArray.size=↑xs:=by rw[uw];exact r.length.symm
  exists "tuple",_,PyProof.Rows.slot_tuple_getitem.lookup,ht.typeIs;exact HT.getItem_tuple_all ht hs pl pu (by rwa[O]) ⟨.ref a,H,I,1,q1 U⟩
 ·exact OA oq s σ H (.ref a) v vl vu lo hi sl Q I Z hs pl pu ⟨a,xs,1,hx,U,q2 U⟩
end
nonrec def y8 (n:Nat):Kd->Str->om Pt
 | .words,z=>u_ (.s z)
 | .box,z=>if z∈BX then u_ (.s z) else US
 | .line,z=>((V1 n).find? λi:Nat=>decide ((V2 (1+(i:Int)):Str)=z)).map λi:Nat=> .n (1+(i:Int))
nonrec def Yh (n:Nat):oj Kd->oj Str->om (oj Pt)
 | [],_=>u_ []
 |k::ks,z::zs=>match y8 n k z,Yh n ks zs with
  |some p,u_ ps=>u_ (p::ps)
  |_,_=>US
 |_::_,[]=>US
nonrec def J7 (w:Str):om (oj Kd):=(FRM.find? λx=>decide (x.1=w)).map (·.2)
nonrec def pcs (ks:oj Kd)(z:Str):oj Str:=spl (if Kd.words∈ks then ↑ks else ↑z+1) z
nonrec def wf (n:Nat)(z:Str):om Rw:=
 if Qs z=v_ then match J7 (hd z) with
  |none=>US
  |some ks=>if(pcs ks z).length=1+↑ks then(Yh n ks ((pcs ks z).drop 1)).map λl=>(hd z,l) else US
 else US
variable {ks:oj Kd}
def XR {w:Str}(h:J7 w=u_ ks):(w,ks)∈FRM:=by
 unfold J7 at h;cases e:FRM.find? λx=>decide (x.1=w) with
 |none=>rw[e] at h;cases h
 |some x=>
  rw[e] at h;have O:=GR e;have hm:=U0 e;cases h;have:x.1=w:=uu O;subst this;exact hm
def Zo {w:Str}(h:J7 w=US):∀x∈FRM,x.1≠w:=by
 unfold J7 at h;rw[HP,Ue] at h;intro x O e;exact h x O (ud e)
variable {n:Nat}{z:Str}
def Cr {m:Nat}{k:Kd}{p:Pt}(U:↑z<=m)(ha:z.cps.toList.all Qz=v_)(h:y8 n k z=u_ p):ON n m k p/\p.t=z:=by
 cases k with
 |words=>cases h;exact[[U:ha]:1]
 |box=>
  simp![y8] at h;by_cases O:z∈BX
  ·rw[A6 O] at h;cases h;exact[O:1]
  ·rw[A4 O] at h;cases h
 |line=>
  simp![y8] at h;cases e:(V1 n).find? λi:Nat=>decide ((V2 (1+(i:Int)):Str)=z) with
  |none=>rw[e] at h;cases h
  |some i=>
   rw[e] at h;cases h;have h1:=GR e;have h2:=List.mem_range.mp (U0 e);exact[[():()]:uu h1]
def Wy {n m:Nat}:∀{ks:oj Kd}{zs:oj Str}{ps:oj Pt},(∀z∈zs,↑z<=m/\z.cps.toList.all Qz=v_)->↑zs=↑ks->Yh n ks zs=u_ ps->xO n m ks ps/\ps.map Pt.t=zs
 | [],[],ps,_,_,h=>by cases h;exact[trivial:1]
 | [],_::_,_,_,hl,_=>by simp at hl
 |_::_,[],_,_,hl,_=>by simp at hl
 |k::ks,z::zs,ps,hz,hl,h=>by
  unfold Yh at h;split at h
  ·rename_i p qs h1 h2
   cases h;erw[Cr (hz z ui).1 (hz z ui).2 h1,O,U];obtain⟨b1,b2⟩:=Wy (λy Z=>hz y (uh _ Z)) (by simpa using hl) h2
   exact⟨[O:b1],by rw[uB,U,b2]⟩
  ·cases h
nonrec def kH:oj (oj Nat)->oj Nat
 | []=> []
 | [x]=>x
 |x::y::r=>x++32::kH (y::r)
def Bo (x:oj Nat){q:oj (oj Nat)}(O:q≠ []):kH (x::q)=x++32::kH q:=by
 cases q with
 |nil=>exact A8 rfl O
 |cons y r=>rfl
def WX:∀(n:Nat) (L:oj Nat),kH (iQ 32 n L)=L
 |0,L=>by simp[iQ,kH]
 |n+1,[]=>by simp[iQ,kH]
 |n+1,a::r=>by
  by_cases h:a=32
  ·have O:=WX n r;erw[Jj 32 n r,p,q,e];rw[iQ,A6 h,Bo [] (by rw[e];simp),O,h]
   rfl
  ·have O:=WX (n+1) r;erw[Jj 32 (n+1) r,p,q,e];rw[e] at O;simp![iQ,A4 h,e];cases q with
   |nil=>simp![kH] at O⊢;rw[O]
   |cons y t=>
    simp![kH] at O⊢;rw[Ur,O]
def At:∀l:oj (oj Nat),(V0 " " (l.map ofL)).cps.toList=kH l
 | []=>rfl
 | [x]=>by show(ofL x).cps.toList=x;unfold ofL;simp
 |x::y::r=>by
  have O:=At (y::r);show(V0 " " (ofL x::ofL y::r.map ofL)).cps.toList=_;rw[Js];have e:(ofL x).cps.toList=x:=by unfold ofL;simp
  rw[e];show x++32::(V0 " " ((y::r).map ofL)).cps.toList=_;rw[O]
  rfl
def Ev (n:Nat)(z:Str):V0 " " (spl n z)=z:=by
 unfold spl;have h:=At (iQ 32 n z.cps.toList);rw[WX] at h;rw[<-Q7 (V0 " " ((iQ 32 n z.cps.toList).map ofL)),h,Q7]
def AJ:∀(n:Nat) (L:oj Nat),∃q,iQ 32 (n+1) L=J0 32 L::q
 |n,[]=>⟨[],by simp[iQ,J0]⟩
 |n,a::r=>by
  by_cases h:a=32
  ·exact⟨iQ 32 n r,by simp[iQ,J0,h]⟩
  ·erw[AJ n r,q,e];exact⟨q,by simp![iQ,A4 h,e,J0]⟩
def Eu (n:Nat)(z:Str):∃q,spl (n+1) z=hd z::q:=by
 erw[AJ n z.cps.toList,q,e];exact⟨q.map ofL,by unfold spl hd;rw[e];rfl⟩
def sx:∀(n:Nat) (L:oj Nat),∀p∈iQ 32 n L,↑p<=↑L/\∀c∈p,c∈L
 |0,L=>λp O=>by
  simp[iQ] at O;subst O;exact[uj _:λc U=>U]
 |n+1,[]=>λp O=>by
  simp[iQ] at O;subst O;exact[uj _:λc U=>U]
 |n+1,a::r=>λp O=>by
  by_cases h:a=32
  ·rw[iQ,A6 h] at O;rcases Aa.mp O with rfl|O
   ·exact⟨uW _,λc U=>by simp at U⟩
   ·erw[sx n r p O,h1,h2];exact⟨by simp;omega,λc U=>uh _ (h2 c U)⟩
  ·erw[Jj 32 (n+1) r,p0,q,e];have Z:=sx (n+1) r;rw[e] at Z;simp![iQ,A4 h,e] at O;rcases Aa.mp O with rfl|O
   ·erw[Z p0 ui,h1,h2];refine⟨by simp;omega,λc U=>?_⟩
    rcases Aa.mp U with rfl|U
    ·exact ui
    ·exact uh _ (h2 c U)
   ·erw[Z p (uh _ O),h1,h2];exact⟨by simp;omega,λc U=>uh _ (h2 c U)⟩
def IY {m:Nat}(hz:↑z<=m)(ha:z.cps.toList.all Qz=v_):∀p∈spl n z,↑p<=m/\p.cps.toList.all Qz=true:=by
 intro p O;erw[Ae.mp O,q,U,rfl];erw[sx n z.cps.toList q U,h1,h2];have e:(ofL q).cps.toList=q:=by unfold ofL;simp
 exists ?_,?_
 ·have:↑(ofL q)=↑q:=by unfold ofL VA;simp
  rw[this];have:↑z.cps.toList=↑z:=by simp[VA]
  omega
 ·rw[e,U5];intro c Z;exact List.all_eq_true.mp ha c (h2 c Z)
variable {r:Rw}
def sW (h:wf n z=u_ r):jU n 300 r/\y9 r=z:=by
 unfold wf at h;split at h
 ·rename_i ht
  have O:=ht;unfold Qs at O;rw[uC,uZ] at O;split at h
  ·cases h
  ·rename_i ks hk
   split at h
   ·rename_i hl
    cases e:Yh n ks ((pcs ks z).drop 1) with
    |none=>rw[e] at h;cases h
    |some l=>
     rw[e] at h;cases h;have hm:=XR hk;have U:∀p∈(pcs ks z).drop 1,↑p<=300/\p.cps.toList.all Qz=true:=λp Z=>IY O.1 O.2 p (FO Z);obtain⟨a1,a2⟩:=Wy U (by rw[vS,hl];omega) e
     exists [ks:hm:a1];have aa:∃j,(if Kd.words∈ks then ↑ks else ↑z+1)=j+1:=by
      split
      ·rename_i hw
       exact⟨↑ks-1,by have:=List.length_pos_iff.mpr (λe=>by rw[e] at hw;simp at hw:ks≠ []);omega⟩
      ·exact[↑z:1]
     erw[aa,j,hj];erw[Eu j z,q,hq];have Z:pcs ks z=hd z::q:=by unfold pcs;rwa[hj]
     have hb:V0 " " (pcs ks z)=z:=Ev _ z;show V0 " " (hd z::l.map Pt.t)=z;rw[a2];rw[Z] at hb⊢;exact hb
   ·cases h
 ·cases h
section
variable {X:Cx}{oq:oj (o3×Obj)}{σ:St}{H:Hp}{s:o7}
def m8:∀{cs:oj o3}{its:oj o6},im (cs.map V.ref) its->its=cs.map UZ
 | [],_,h=>by cases h;rfl
 |c::cs,_,h=>by
  cases h with
  |cons O U=>
   rw[m8 U,show _=UZ c from O]
   rfl
end
section
variable {X:Cx}
def zV:∀{ls:oj Str}{its:oj o6},im (ls.map V.str) its->tW its ls
 | [],_,h=>by cases h;exact .nil
 |z::ls,_,h=>by
  cases h with
  |cons O U=>
   erw[O,t,e];rw[e];exact .cons z t (zV U)
def zS:∀{ls:oj Str}{its:oj o6},tW its ls->im (ls.map V.str) its
 |_,_,.nil=> .nil
 |_,_,.cons x t h=> .cons [t:1] (zS h)
def sL:∀{xs:oj V}{us:oj o6},↑xs=↑us->(∀(j:Nat) (x:V) (v:o6),xs[j]? =u_ x->us[j]? =u_ v->ik x v)->im xs us
 | [],[],_,_=> .nil
 |x::xs,u::us,hl,h=> .cons (h 0 x u rfl rfl) (sL (by simpa using hl) λj y v h1 h2=>h (j+1) y v (by simpa using h1) (by simpa using h2))
 | [],_::_,hl,_=>by simp at hl
 |_::_,[],hl,_=>by simp at hl
def oR (hc:X.calm=v_):YN X (.builtin "sorted") (λxs H Q=>∃(d:o3) (kvs:oj (Key×V)) (ls:oj Str),xs= [.ref d]/\H d=u_ (.dK kvs)/\kvs.map (·.1)=ls.map UV/\↑ls<64/\∀(Z:oj Str) (q:o3),Z.Perm ls->sortedS Z=v_->H q=US->Q (.ref q) (upd H q (.lst (Z.map V.str)))):=by
 exists 2,xs,us,Q,I,r,h;erw[h,d,kvs,ls,rfl,hd,hk,am,q];erw[Xq r,u,rfl,ru];cases ru;erw[IM I.hok hd,hz,lo,vs,ae,dd];erw[id dd,o,es,ep,ho];have af:s.heap.DictAt (Qk X.prog X.w) d vs ep:=[o:es:ho];have aa:↑vs=↑ls:=by
  have h1:=A9 VD hk;rw[ue,ue] at h1;rw[<-↑ae,h1]
 refine v9 (n:=1) I.tk ?_;refine PySem.Calls.call_function_entry kind_sorted plain_sorted entry_sorted (args_sorted1 _) ?_;unfold g_.«sorted»;refine A7 (m:=checkCount "sorted" 1 1 _) (uF ?_);refine A7 (PySem.W.kdu_collect (A:=X.A.in1) (PySem.W.kdl_dict lo) (I.ok.hd hc) af (by rw[aa,uD];omega) λh' tk U ag O=>?_)
 have hS:tW U.toList ls:=by
  refine zV (sL (by rw[ue,vk];exact aa.symm.trans O.1.symm) λj x v hx hv=>?_)
  rw[uN] at hx;cases ac:ls[j]? with
  |none=>rw[ac] at hx;cases hx
  |some z=>
   rw[ac] at hx;cases hx;obtain⟨k,y,e1,e2⟩:=O.2 j v (by rwa[<-Fz])
   have e3:(kvs.map (·.1))[j]? =u_ k:=by
    rw[ae.keys,uN,e1]
    rfl
   rw[hk,uN,ac] at e3;cases e3;rcases Qu (show ot (UV z) v=v_ from e2) with⟨i,t,e4,e5⟩|⟨z',t,e4,e5⟩
   ·cases e4
   ·cases e4;exact[t:e5]
 have ah:↑U.toList=↑ls:=by rw[vk,O.1,aa]
 refine A7 (T9 ?_ (by rw[ah,uD];omega))
 have ad:(h'.push (seqObj "list" U.toList.toArray 0)).get? h'.objs.size=u_ (seqObj "list" U.toList.toArray 0):=uJ _ rfl;refine A7 (Vq (vT slot_list_sort [_:ad:1] entry_list_sort (list_sort_treeK strKind_oneLt ad hS.keysOf (λv₁ v₂ rest e=>keyKind_strs (by rwa[<-e])) () λak a1 a2=>[0:?_]) (args_list_sort _)))
 refine uF [0:?_];erw[sorted_out_str hS a1 a2,Z,b1,b2,b3];erw[sortedHeap_at (out:=(arrOf ak).map (·.2)) ad,e,he];have al:↑Z=↑ls:=b2.length_eq;intro htk;have I':Inv X oq σ H {s with heap:=h',toks:=tk}:=I.kept ag
 exists .ref h'.objs.size,_,I'.laid (t':=tk) (o:= .lst (Z.map V.str)) (λb u w=>?_) (uj _) ⟨?_,_,e,zS b1,he⟩,1,q Z _ b2 b3 (I'.hok.fresh (uj _))
 ·have hb:=uI w;rw[sortedHeap_old (uR hb) (by rw[size_push'];exact Nat.lt_succ_of_lt hb)]
  exact ug _ w
 ·rw[ue,al,uD];omega
nonrec def Itd (d:o3)(o:Obj):It:=
 ⟨λi H=>∃kvs,H d=u_ (.frz o (.dK kvs))/\i<↑kvs,λi H x H'=>H'=H/\∀kvs,H d=u_ (.frz o (.dK kvs))->(kvs.map λp=>kV p.1)[i]? =u_ x,λi H=>∃kvs,H d=u_ (.frz o (.dK kvs))/\↑kvs<=i⟩
variable {w:og}
def Cs {P:o9}{es:oj VY}{kvs:oj (Key×o6)}(h:Pairs (Qk P w) es kvs):↑es=↑kvs:=↑h
variable {H:Hp}{h:o8}{o:Obj}
def DD {P:o9}{d:o3}{kvs:oj (Key×V)}{es:Array VY}{ep:Nat}(ok:HOk P w H h)(e:H d=u_ (.frz o (.dK kvs)))(hd:o.data= .dict es ep):
  (d==Ve)=UT/\∃vs,KV kvs vs/\h.DictAt (Qk P w) d vs ep/\↑vs=es.size/\↑kvs<=sizeLine:=by
 obtain⟨U,hz,lo,vs,r,o',es',aa,O,c1,Z,c3,c4,c5⟩:=(show yt P w H h d (.frz o (.dK kvs)) from ok d _ e)
 rw[U] at O;cases O;rw[hd] at Z;cases Z;exact⟨lo,vs,r,⟨o,es,U,c1,hd,c3,c4,c5⟩,by rw[<-vk];exact(Cs c4).symm,hz⟩
def Pr {k:Key}{v:o6}(h:ot k v=v_):ik (kV k) v:=by
 rcases Qu h with⟨i,t,rfl,rfl⟩|⟨z,t,rfl,rfl⟩
 ·exact[t:1]
 ·exact[t:1]
variable {K:o0}{tg:Expr}
def BG {P:o9}(d it:o3){es:Array VY}{ep:Nat}(hd:o.data= .dict es ep):NI P w K tg (Itd d o) [it] it (λi h=>h.IsKeyIter it d i es.size ep) where
 mem:=by simp
 obj:=λi h st b O=>by
  have e:b=it:=by simpa using O
  subst e;erw[st,o,e,c,d];exact⟨o,e,λv z=>by rw[d] at z;cases z⟩
 keep:=λi h h' st k=>by
  erw[st,o,e,c,dd];exact⟨o,k it (by simp) o e,c,dd⟩
 item:=by
  intro X hP hw hK hc i oq s σ H E I hf st hg;subst hP hw hK;erw[hg,kvs,hq,hx];erw[DD I.hok hq hd,lo,vs,r,U,hl,_];have ad:=↑r;obtain⟨f0,f1,f2,f3,f4,f5⟩:=hf it (by simp)
  obtain⟨⟨k,v⟩,Z⟩:∃p,vs[i]? =u_ p:=[_:uq ()]
  refine wpAny_pyNext_dict_item (by rwa[hl]) U Z λae h' hk aa sb=>?_
  have I1:Inv X oq σ H {s with heap:=h'}:=I.turned (t':=s.toks) (λb o O e=>(sb.2 b O).trans e) f0 f1 f3 f4 f5
  erw[id aa,oi,e,c,di];refine⟨ae,1,DA (s:={s with heap:=h'}) e c di () ⟨kV k,H,I1,Pr hk,[1:λaf ac=>?_],by rw[<-hl];exact aa,λb O=>(hf b O).1⟩⟩
  rw[hq] at ac;cases ac;have e3:(kvs.map (·.1))[i]? =u_ k:=by
   rw[r.keys,uN,Z]
   rfl
  rw[uN] at e3⊢;cases h4:kvs[i]? with
  |none=>rw[h4] at e3;cases e3
  |some p=>
   rw[h4] at e3;cases e3
   rfl
 done:=by
  intro X hP hw hK hc i oq s σ H E I hf st hg;subst hP hw hK;erw[hg,kvs,hq,hx];erw[DD I.hok hq hd,lo,vs,r,U,hl,_];have ad:=↑r;obtain⟨f0,f1,f2,f3,f4,f5⟩:=hf it (by simp)
  exact wpAny_pyNext_dict_end (I.ok.hd hc) (by rwa[hl]) U (Rb ()) λh' eb=>[1:I.turned (t':=s.toks) (λb o O e=>eb b o O e) f0 f1 f3 f4 f5]
 self:=λ_ _ _ _ _ st h=>wpAny_pyIter_keyiter st h
nonrec def Aai (tl:TE):TI:=λσ H R=>tl σ H λx H1=>∃d o kvs,x= .ref d/\H1 d=u_ (.frz o (.dK kvs))/\R (Itd d o) H1
def Mf {tg l:Expr}{tl:TE}(Z:PE X l tl):PI X tg l (Aai tl):=by
 exists 2,R,I,h;refine thn (Z oq s σ H _ I h) λv s1 zq=>?_;erw[zq,x,H1,O,r1,q1];erw[q1,d,o,kvs,rfl,hq,q];cases r1;obtain⟨ho,_,lo,vs,r,o',es,ep,U,c1,c2,_⟩:=(show yt X.prog X.w H1 s1.heap d (.frz o (.dK kvs)) from O.hok d _ hq)
 rw[ho] at U;cases U;erw[DD O.hok hq c2,lo,vs,r,aa,Z,_];refine wpAny_pyIter_dict lo aa ?_;refine⟨#[0,s1],[#[0,s1]],_,_,H1,1,O.kept (t':=s1.toks) λb o e=>ug _ e,BG d _ c2,⟨_,uJ _ rfl,1,by rw[Z];rfl⟩,λb hb=>?_,q⟩
 have e:b=#[0,s1]:=by simpa using hb
 subst e;exact O.fpOk (uj _) (O.hok.fresh (uj _))
end
end L2
namespace PySem.AwK
open PySem Builtin Builtin.ObjectAttr
def M3:GJ (.type "list") "keys"=pure none:=by rw[rA,FQ];kernel_rfl
section
variable {prog:o9}{w:og}{A:oh}{E:o6->o7->Prop}{s:o7}
def ku:isSubtype (.type "AttributeError") (.type "AttributeError")=pure true:=by rw[isSubtype_type];kernel_rfl
def Bg {α:Type}{o:o6}{name O:Str}{Q:α->o7->Prop}(hh:A.handled=US)(hm:↑O<=UX)
  (hq:∀h' ac e,(∀b ob,s.heap.get? b=u_ ob->h'.get? b=u_ ob)->(∃oe,h'.get? e=u_ oe/\oe.cls= .type "AttributeError")->E (.ref e) {s with heap:=h',toks:=ac}):
  UU #[w,w] A (Tt o name O:Sem α) Q E s:=by
 unfold Tt;refine A7 (wpAny_mkStr (A7 ?_) hm);unfold newExc newTuple;refine A7 (vw ?_ (by show(1:Nat)<=UX;rw[uD];decide))
 refine A7 (m:=tT _ _) (R8 (a:=Vy) (by kernel_rfl) ?_)
 obtain⟨h1,aa⟩:∃h1,h1=s.heap.push {cls:= .type "tuple",data:= .seq #[Vj O s.toks]}:=⟨0⟩;have k1:∀b ob,s.heap.get? b=u_ ob->h1.get? b=u_ ob:=λb ob e=>by rw[aa];exact ug _ e
 show UU #[w,w] A (newObj (.type "AttributeError") (.fields #[.ref #[0,s],.none,.none,.none,.bool UT,.none,Vw,Vw])) _ E {s with heap:=s.heap.push {cls:= .type "tuple",data:= .seq #[Vj O s.toks]},toks:=s.toks+1}
 rw[<-aa];refine vw ?_ (by unfold sizeOk;first|trivial|(rw[uD];simp)|decide)
 obtain⟨h2,U⟩:∃h2,h2=h1.push {cls:= .type "AttributeError",data:= .fields #[.ref #[0,s],.none,.none,.none,.bool UT,.none,Vw,Vw]}:=⟨0⟩;have k2:∀b ob,h1.get? b=u_ ob->h2.get? b=u_ ob:=λb ob e=>by rw[U];exact ug _ e
 have Z:h2.get? h1.objs.size=u_ {cls:= .type "AttributeError",data:= .fields #[.ref #[0,s],.none,.none,.none,.bool UT,.none,Vw,Vw]}:=by rw[U];exact uJ _ rfl
 show UU #[w,w] A (do let x<-mkText name;noteAttr (.ref h1.objs.size) o x;raiseNew (.ref h1.objs.size)) Q E {s with heap:=h1.push {cls:= .type "AttributeError",data:= .fields #[.ref #[0,s],.none,.none,.none,.bool UT,.none,Vw,Vw]},toks:=s.toks+1}
 rw[<-U];have ne:∀b ob,h1.get? b=u_ ob->b≠h1.objs.size:=λb ob e=>uR (uI e);generalize h1.objs.size=e at Z ne⊢;refine A7 (FI (A7 ?_));have hT:∀g d t os,(⟨h2,g,d,t,os⟩:o7).TypeIs (.ref e) "AttributeError":=λ_ _ _ _=>[_:Z:1];unfold noteAttr lacksNameAndObj;refine A7 (A7 (UO (hT _ _ _ _) ku ?_));simp![Bool.not_true,UB,if_false];refine A7 (He Z ?_);dsimp only;rw[A4 (by simp[Vw,VF]),A4 (by simp[Vw,doubtfulMember,VF])]
 refine uF ?_;rw[A6 rfl];refine A7 (UI (A7 (V_ (hT _ _ _ _) ?_)));show UU #[w,w] A (layMembers e 6 #[Vj name (s.toks+1),o]) _ E _;unfold layMembers;refine A7 (He Z ?_);dsimp only;refine wpAny_update Z ?_;have e3:=Tb (FT λvs=>vs.extract 0 6++ #[Vj name (s.toks+1),o]) Z rfl;have k3:∀b ob,b≠e->h2.get? b=u_ ob->(h2.update e (FT λvs=>vs.extract 0 6++ #[Vj name (s.toks+1),o])).get? b=u_ ob:=λb ob hb q=>(HN _ _ (Uo hb)).trans q;exact wpAny_raiseNew_none hh (hq _ _ e (λb ob q=>k3 b ob (ne b ob (k1 b ob q)) (k2 b ob (k1 b ob q))) [_:e3:1])
end
section
variable {prog:o9}{w:og}{A:oh}{E:o6->o7->Prop}{h:o8}{g:Array Hl}{d:Drawn}{t:Nat}{os:OsState}{a:o3}{its:Array o6}{n:Nat}{sl:Array (om o6)}
def Iq {tk:Tok}{Q:Fin->o7->Prop}(Z:A.handled=US)(hx:h.get? a=u_ {cls:= .type "list",dict:=US,data:= .seq its n,slots:=sl})
  (hq:∀h' O e,(∀b ob,h.get? b=u_ ob->h'.get? b=u_ ob)->(∃U,h'.get? e=u_ U/\U.cls= .type "AttributeError")->E (.ref e) ⟨h',g,d,O,os⟩):
  UU #[w,w] A (g_.«object.__getattribute__» [[.ref a,.str "keys" tk]:[]]) Q E ⟨h,g,d,t,os⟩:=by
 have hT:(⟨h,g,d,t,os⟩:o7).TypeIs (.ref a) "list":=[_:hx:1];have f4:=M3
 repeat (any_goals (first|assumption|wp_step))
 exact Bg Z (by rw[uD];decide+kernel) hq
def MX {tk:Tok}{R:VX->o7->Prop}(hh:A.handled=US)(U:h.get? a=u_ {cls:= .type "list",dict:=US,data:= .seq its n,slots:=sl})
  (hq:∀h' O e,(∀b ob,h.get? b=u_ ob->h'.get? b=u_ ob)->(∃Z,h'.get? e=u_ Z/\Z.cls= .type "AttributeError")->R (.error (.ref e)) ⟨h',g,d,O,os⟩):
  Vn #[w,w] A (.call (.builtin "list.__getattribute__") [[.ref a,.str "keys" tk]:[]]) R ⟨h,g,d,t,os⟩:=
 codeAny_call_builtin F.slot_list_getattribute.plain F.entry_list_ga (F.slot_list_getattribute.check _ _ _ _ _ _ _ _ (show(⟨h,g,d,t,os⟩:o7).TypeIs (.ref a) "list" from[_:U:1]) (F.args_list_getattribute_2 _ _) (Iq hh U hq))
def MW {Q:om o6->o7->Prop}(hh:A.handled=US)(U:h.get? a=u_ {cls:= .type "list",dict:=US,data:= .seq its n,slots:=sl})
  (hq:∀h' O,(∀b ob,h.get? b=u_ ob->h'.get? b=u_ ob)->Q US ⟨h',g,d,O,os⟩):UU #[w,w] A (getAttr? (.ref a) "keys") Q E ⟨h,g,d,t,os⟩:=by
 have hT:∀t,(⟨h,g,d,t,os⟩:o7).TypeIs (.ref a) "list":=λt=>[_:U:1];unfold getAttr? getAttrBy?;refine A7 (FI (A7 (GQ ?_)));unfold getAttrBy;refine Vq (A7 (V_ (hT _) ?_));rw[F.slot_list_getattribute.lookup];refine A7 (uF ?_);show UU #[w,w] A (FU (.ref a) _ (.type "list") (.builtin "list.__getattribute__") UT UT) _ _ _;unfold FU;refine A7 (m:=hookBefore _) (uF ?_);refine A7 (GQ (Vq ?_));show UU #[w,w] A (Fi (.builtin "list.__getattribute__") (.ref a) _) _ _ _;unfold Fi;rw[F.slot_list_getattribute.bind];refine A7 (uF (HG (MX hh U λh' O e k zq=>?_)));erw[zq,oe,e1,e2];have Z:∀t,(⟨h',g,d,t,os⟩:o7).TypeIs (.ref e) "AttributeError":=λt=>[_:e1:e2];show UU #[w,w] A (TW (.ref a) _ (.type "list") (.ref e) US UT UT) _ _ ⟨h',g,d,O,os⟩;unfold TW;refine A7 (UO (Z _) ku ?_);rw[A6 rfl];have lg:hookBehind (.type "list") US=pure none:=by
  show GJ (.type "list") "__getattr__"=pure US;rw[rA,FQ]
  kernel_rfl
 rw[lg];refine A7 (uF ?_);show UU #[w,w] A (rK (.ref a) _ (.ref e) UT UT) _ _ _;unfold rK;refine TM ?_;refine A7 (UO (Z _) ku ?_);rw[A6 rfl];exact uF (hq h' O k)
end
def Wf:entryFor table "dict.update.loop"=u_ g_.«dict.update.loop»:=entryFor_of_fast (by kernel_rfl)
def JQ:plainId "dict.update.loop"=true:=by decide+kernel
section
variable {prog:o9}{w:og}{A:oh}{E:o6->o7->Prop}{K:Type}[DecidableEq K]{knd:KeyKind prog w K}
nonrec def addAll (cur:oj (K×o6)):oj (K×o6)->oj (K×o6)
 | []=>cur
 |p::r=>addAll (VL cur p.1 p.2) r
structure RQ (h:o8)(d it:o3)(v:o6)(p:K×o6):Prop where
 at_:∃(t:o3) (o:Obj) (k:o6) (n:Nat),v= .ref t/\t≠d/\t≠it/\h.get? t=u_ o/\o.cls= .type "tuple"/\o.data= .seq #[k,p.2] n/\knd.is p.1 k=v_
def Bi (hh:A.handled=US){d it l:o3}{items:Array o6}{ps:oj (K×o6)}{R:VX->o7->Prop}(aq:d≠l)(au:it≠l)(aa:d≠it)(hn:items.size=↑ps)(hz:2*↑ps<=UX)(res:o6):
  ∀(m i:Nat) (s:o7) (O:oj (K×o6)),i+m=↑ps->s.heap.IsListIter it l i->s.heap.IsList l items->s.heap.DictOf knd d O->↑O<=i->
  (∀(j:Nat) (v:o6) (p:K×o6),items[j]? =u_ v->ps[j]? =u_ p->RQ (knd:=knd) s.heap d it v p)->
  (∀h' ac,h'.DictOf knd d (addAll O (ps.drop i))->(∀b o,b≠d->b≠it->s.heap.get? b=u_ o->h'.get? b=u_ o)->R (.ok (.ret res)) {s with heap:=h',toks:=ac})->
  Vn #[w,w] A (.builtin "dict.update.loop" [[.ref d,.ref it,VF i,res]:[]]) R s:=by
 intro m
 induction m with
 |zero=>
  intro i s O hm ad hl hd hc hp hR;refine TK Wf ?_;rw[Tg JQ _];show UU _ A.in1 (VC (.ref it)>>=_) _ _ s;refine A7 (rY (A:=A.in1) hh ad hl (by rw[Array.getElem?_eq_none ()]) λh' eb=>?_)
  have ae:h'.DictOf knd d O:=by
   erw[hd,o,es,ep,ho,r];exact⟨o,es,ep,eb d o aa ho,r⟩
  have:=hR h' s.toks (by rwa[List.drop_eq_nil_of_le ()]) λb o Z U e=>eb b o U e
  show UU #[w,w] A.in1 (Dict.addKeywords d []>>=λ_=>ret res) _ _ _;refine A7 (m:=Dict.addKeywords d []) (uF ?_);exact uF this
 |succ m ih=>
  intro i s O hm ad hl hd hc hp hR;refine TK Wf ?_;rw[Tg JQ _];have hi:i<items.size:=by omega
  have ag:i<↑ps:=by omega
  have hx:items[i]? =u_ items[i]:=Array.getElem?_eq_getElem hi;have aw:ps[i]? =u_ ps[i]:=uq ag;erw[(hp i _ _ hx aw).at_,t,o,k,n,ev,aD,ax,ho,ay,aA,hk];rw[ev] at hx;show UU _ A.in1 (VC (.ref it)>>=_) _ _ s;refine A7 (rD (A:=A.in1) ad hl hx λh1 ah af=>?_);have ak:h1.get? t=u_ o:=(af.2 t ax).trans ho;have hT:(({s with heap:=h1}:o7)).TypeIs (.ref t) "tuple":=[_:ak:ay]
  have al:h1.DictOf knd d O:=hd.sameBut af aa;dsimp only;refine A7 (Vq (A7 (wpAny_tryCatch ?_)));unfold Dict.pairItems;refine A7 (V_ hT ?_);rw[A6 ()]
  refine A7 ?_;unfold HW;refine A7 (He ak ?_);rw[aA];refine uF (uF ?_);show UU #[w,w] A.in1 (VQ [k,ps[i].2] (dictSet d k ps[i].2)) _ _ _;refine Vq (wpAny_dictSet_pairs hk al (λh2 aB am=>?_) ())
  have ao:h2.IsListIter it l (i+1):=by
   erw[ah,oi,e,c];exact[oi:(am.2 it (Uo aa)).trans e:c]
  have keep:∀b ob,b≠d->b≠it->s.heap.get? b=u_ ob->h2.get? b=u_ ob:=λb ob Z U e=>(am.2 b Z).trans ((af.2 b U).trans e);have aC:h2.IsList l items:=by
   erw[hl,ol,e,c];exact[ol:keep l ol (Uo aq) (Uo au) e:c]
  refine uF [rX JQ _:?_];have ap:↑(VL O ps[i].1 ps[i].2)<=i+1:=by
   unfold VL;split
   ·rw[ue];omega
   ·rw[uA];show ↑O+1<=i+1;omega
  refine ih (i+1) _ _ () ao aC aB ap (λj v p h1 h2=>?_) λh' ac ae kp=>?_
  ·erw[(hp j v p h1 h2).at_,t',o',k',n',e1,e2,e3,e4,e5];exact⟨⟨t',o',k',n',e1,e2,e3,keep t' o' e2 e3 e4,e5⟩⟩
  ·refine hR h' ac ?_ λb ob Z U e=>kp b ob Z U (keep b ob Z U e);rw[vg ag];exact ae
def dict_pairs (hh:A.handled=US){s:o7}{l:o3}{items:Array o6}{n:Nat}{sl:Array (om o6)}{ps:oj (K×o6)}{Q:o6->o7->Prop}(hl:s.heap.get? l=u_ {cls:= .type "list",dict:=US,data:= .seq items n,slots:=sl})(hn:items.size=↑ps)(hz:2*↑ps<=UX)
  (hp:∀(j:Nat) (v:o6) (p:K×o6),items[j]? =u_ v->ps[j]? =u_ p->∃(t:o3) (o:Obj) (k:o6) (n:Nat),v= .ref t/\s.heap.get? t=u_ o/\o.cls= .type "tuple"/\o.data= .seq #[k,p.2] n/\knd.is p.1 k=v_)
  (hQ:∀h' aa,h'.DictOf knd #[0,s] (addAll [] ps)->(∀b o,s.heap.get? b=u_ o->h'.get? b=u_ o)->Q (.ref #[0,s]) {s with heap:=h',toks:=aa}):
  UU #[w,w] A (call (.type "dict") [.ref l]) Q E s:=by
 refine callType_codes (Q₁:=λobj s₁=>obj= .ref #[0,s]/\s₁={s with heap:=s.heap.push {cls:= .type "dict",data:= .dict #[]}}) F.kt_called_dict (F.kt_typeCall_dict_1 _) F.entry_dict_init (kt_code_dict_new _ [1:1]) ?_
 rintro obj s₁ ⟨rfl,rfl⟩;have U:(s.heap.push {cls:= .type "dict",data:= .dict #[]}).DictOf knd #[0,s] []:=rM s.heap;exists U.typeIs,F.args_dict_init_2 _ _;unfold g_.«dict.__init__»;refine A7 ?_;unfold Rx;refine A7 (wpAny_notOrdered_dict U.typeIs ?_);refine(show UU _ _ (pure (#[0,s],[UZ l])) _ _ _ from ?_)
 refine uF ?_;refine(show UU _ _ (FD "dict.__init__" #[0,s] (.ref l) [] .none) _ _ _ from ?_)
 unfold FD;have Z:(s.heap.push {cls:= .type "dict",data:= .dict #[]}).get? l=u_ {cls:= .type "list",dict:=US,data:= .seq items n,slots:=sl}:=ug _ hl;refine A7 (V_ (T:="list") [_:Z:1] ?_);rw[A6 ()]
 refine A7 (MW (A:=A.in1.in1) hh Z λh2 al k2=>?_);rw[A6 (show(US:om o6).isNone=v_ from rfl)]
 have ac:l<#[0,s]:=uI hl;have ae:h2.IsList l items:=⟨_,k2 _ _ Z,1,n,1⟩;refine A7 (UI (A7 (UH ae ?_)));have ad:h2.DictOf knd #[0,s] []:=by
  erw[U,o,es,ep,ho,r];exact⟨o,es,ep,k2 _ _ ho,r⟩
 have O:#[0,s]<h2.objs.size:=by
  erw[ad,o,es,ep,ho,r];exact uI ho
 have k1:∀b o,s.heap.get? b=u_ o->h2.get? b=u_ o:=λb o e=>k2 b o (ug _ e);have k3:∀b o,h2.get? b=u_ o->(h2.push {cls:= .type "list_iterator",data:= .fields #[.ref l,.int 0 0]}).get? b=u_ o:=λb o e=>ug _ e;have af:(h2.push {cls:= .type "list_iterator",data:= .fields #[.ref l,.int 0 0]}).IsList l items:=⟨_,k3 _ _ (k2 _ _ Z),1,n,1⟩;have ag:(h2.push {cls:= .type "list_iterator",data:= .fields #[.ref l,.int 0 0]}).DictOf knd #[0,s] []:=ad.push _;refine uF [rX JQ _:Bi (A:=A.in1) hh (d:=#[0,s]) (it:=h2.objs.size) (l:=l) (items:=items) (ps:=ps) (Ug ac) (Ug (hZ ac O)) (uR O) hn hz .none ↑ps 0 _ [] () ⟨_,uJ _ rfl,1,1⟩ af ag (uj _) (λj v p h1 ah=>?_) λh' aa ak kp=>?_]
 ·erw[hp j v p h1 ah,t,o,k,n',e1,e2,e3,e4,e5];have ht:=uI e2;exact⟨⟨t,o,k,n',e1,uR ht,uR (hZ ht O),k3 _ _ (k1 _ _ e2),e3,e4,e5⟩⟩
 ·exists 1,hQ h' aa ak λb o e=>?_;have hb:=uI e;exact kp b o (uR hb) (uR (hZ hb O)) (k3 _ _ (k1 _ _ e))
end
end PySem.AwK
namespace L2
open PySem PySem.Spec PyProof.Rows
section
variable {X:Cx}
nonrec def iW (ps:oj (Str×V)):oj (Key×V):=ps.map λp=>(UV p.1,p.2)
def wn (ps:oj (Str×V)):(iW ps).map (·.1)=(ps.map (·.1)).map Sum.inr:=by
 unfold iW;rw[uU,uU]
 rfl
def AY {kvs:oj (Key×o6)}{k:Key}{v:o6}(h:k∉kvs.map (·.1)):VL kvs k v=kvs++ [(k,v)]:=by
 unfold VL;rw[A4];intro q;erw[List.any_eq_true.mp q,p,O,e];exact h (Ae.mpr [p:O:uu e])
def wZ:∀{ps O:oj (Key×o6)},((O++ps).map (·.1)).Nodup->AwK.addAll O ps=O++ps
 | [],O,_=>(vQ O).symm
 |p::r,O,h=>by
  unfold AwK.addAll;have U:p.1∉O.map (·.1):=by
   rw[uz,uB] at h;intro q;exact(List.nodup_append.mp h).2.2 _ q _ ui rfl
  rw[AY U,wZ (by rw[UJ];exact h),UJ]
  rfl
def nQ {P:o9}{w:og}{H:Hp}{h:o8}(ok:HOk P w H h):∀{ts:oj o3}{ps:oj (Str×V)},↑ts=↑ps->(∀(i:Nat) (t:o3) (p:Str×V),ts[i]? =u_ t->ps[i]? =u_ p->H t=u_ (.tup [.str p.1,p.2]))->
  ∃pv:oj (Key×o6),KV (iW ps) pv/\∀(j:Nat) (v:o6) (p:Key×o6),(ts.map UZ)[j]? =u_ v->pv[j]? =u_ p->∃(t:o3) (o:Obj) (k:o6) (n:Nat),v= .ref t/\h.get? t=u_ o/\o.cls= .type "tuple"/\o.data= .seq #[k,p.2] n/\(Qk P w).is p.1 k=v_
 | [],[],_,_=>⟨[],.nil,λj v p e=>by simp at e⟩
 |t::ts,p::ps,hl,hp=>by
  obtain⟨pv,h1,h2⟩:=nQ ok (ts:=ts) (ps:=ps) (by simpa using hl) λi t' p' O U=>hp (i+1) t' p' (by simpa using O) (by simpa using U)
  obtain⟨_,its,rv,o,Z,hc,n,hd⟩:=(show yt P w H h t (.tup [.str p.1,p.2]) from ok t _ (hp 0 t p rfl rfl))
  cases rv with
  |cons r1 rv=>
  cases rv with
  |cons r2 rv=>
  cases rv with
  |nil=>
  erw[r1,tk,rfl]
  rename_i u
  exists (UV p.1,u)::pv,.cons [1:r2] h1,λj v q O U=>?_;cases j with
  |zero=>
   simp![uB,List.getElem?_cons_zero,RM] at O U;subst O U;exact⟨t,o,_,n,1,Z,hc,hd,ZT _ _ _ _⟩
  |succ j=>exact h2 j v q (by simpa using O) (by simpa using U)
 | [],_::_,hl,_=>by simp at hl
 |_::_,[],hl,_=>by simp at hl
nonrec def AS (H:Hp)(l:o3)(ps:oj (Str×V)):Prop:=∃ts:oj o3,H l=u_ (.lst (ts.map V.ref))/\↑ts=↑ps/\∀(i:Nat) (t:o3) (p:Str×V),ts[i]? =u_ t->ps[i]? =u_ p->H t=u_ (.tup [.str p.1,p.2])
def DW {oq:oj (o3×Obj)}{σ:St}{H:Hp}{s:o7}{l:o3}{ps:oj (Str×V)}{Q:o6->o7->Prop}(hc:X.calm=v_)(I:#[I])(hl:AS H l ps)(hn:(ps.map (·.1)).Nodup)(hz:↑ps<=1000)
  (h:∀h' O pv,0<O->(∀b o,s.heap.get? b=u_ o->h'.get? b=u_ o)->KV (iW ps) pv->h'.DictOf (Qk X.prog X.w) #[0,s] pv->Q (.ref #[0,s]) {s with heap:=h',toks:=O}):
  UU #[X,X] X.A (call (.type "dict") [.ref l]) Q X.xe s:=by
 erw[hl,ts,e1,e2,e3];obtain⟨_,its,n,rv,ho⟩:=(show yt X.prog X.w H s.heap l (.lst (ts.map V.ref)) from I.hok l _ e1)
 cases m8 rv;erw[nQ I.hok e2 e3,pv,r,hp];have ac:↑pv=↑ps:=by
  rw[<-↑r];unfold iW;rw[ue]
 have Z:(pv.map (·.1)).Nodup:=by
  rw[<-r.keys,wn];exact RJ _ (λa b aa e=>aa (Uf e)) hn
 refine v9 (n:=1) I.tk ?_;refine AwK.dict_pairs (knd:=Qk X.prog X.w) (I.ok.hd hc) (ps:=pv) ho (by rw[uw,ue];omega) (by rw[uD];omega) (λj v p h1 h2=>hp j v p (by simpa using h1) h2) λh' O U kp=>?_
 rw[wZ (by simpa using Z),List.nil_append] at U
 exact λhtk=>h h' O pv htk kp r U
def Bu (Z:X.calm=v_):YN X (.type "dict") (λxs H Q=>∃(l:o3) (ps:oj (Str×V)),xs= [.ref l]/\AS H l ps/\(ps.map (·.1)).Nodup/\↑ps<=1000/\∀q,H q=US->Q (.ref q) (upd H q (.dK (iW ps)))):=by
 exists 2,xs,us,Q,I,r,h;erw[h,l,ps,rfl,hl,hn,hz,q];erw[Xq r,u,rfl,ru];cases ru;refine DW Z I hl hn hz λh' aa pv htk kp rel dd=>?_;have O:(#[0,s]==Ve)=false:=by
  rw[beq_eq_false_iff_ne];exact Ug I.big
 have U:↑(iW ps)<=sizeLine:=by unfold iW;rw[ue,uD];omega
 exact⟨.ref #[0,s],_,I.laid kp (uj _) (oP U O rel dd),1,q _ I.fresh⟩
def Bv (Z:X.calm=v_):YN X (.type "dict") (λxs H Q=>∃(l:o3) (ps:oj (Str×V)),xs= [.ref l]/\AS H l ps/\(ps.map (·.1)).Nodup/\↑ps<=1000/\∀q o,H q=US->Q (.ref q) (upd H q (.frz o (.dK (iW ps))))):=by
 exists 2,xs,us,Q,I,r,h;erw[h,l,ps,rfl,hl,hn,hz,q];erw[Xq r,u,rfl,ru];cases ru;refine DW Z I hl hn hz λh' aa pv htk kp rel dd=>?_;have O:(#[0,s]==Ve)=false:=by
  rw[beq_eq_false_iff_ne];exact Ug I.big
 have U:↑(iW ps)<=sizeLine:=by unfold iW;rw[ue,uD];omega
 erw[id dd,o,es,ep,ho,rr];exact⟨.ref #[0,s],_,I.laid (o:= .frz o (.dK (iW ps))) kp (uj _) [ho:oP U O rel dd],1,q _ o I.fresh⟩
end
mutual
noncomputable def puD:D->Bool
 | .str _=>v_
 | .int _=>v_
 | .tup xs=>puL xs
 |_=>UT
noncomputable def puL:oj D->Bool
 | []=>v_
 |x::r=>puD x&&puL r
end
mutual
noncomputable def eqD:D->D->Bool
 | .str a,.str b=>a==b
 | .int a,.int b=>a==b
 | .tup xs,.tup ys=>eqL xs ys
 |_,_=>UT
noncomputable def eqL:oj D->oj D->Bool
 | [],[]=>v_
 |x::r,y::q=>eqD x y&&eqL r q
 |_,_=>UT
end
mutual
theorem DM:∀{d e:D},puD d=v_->(eqD d e=v_↔d=e)
 | .str a,e,_=>by cases e<;>simp[eqD]
 | .int a,e,_=>by cases e<;>simp[eqD]
 | .tup xs,.tup ys,h=>by
  have:=eqL_iff (xs:=xs) (ys:=ys) (by simpa [puD] using h)
  simp![eqD,this,D.tup.injEq]
 | .tup xs,.non,_=>by simp[eqD]
 | .tup xs,.bl _,_=>by simp[eqD]
 | .tup xs,.int _,_=>by simp[eqD]
 | .tup xs,.str _,_=>by simp[eqD]
 | .tup xs,.lst,_=>by simp[eqD]
 | .tup xs,.dct,_=>by simp[eqD]
 | .non,_,h=>by simp[puD] at h
 | .bl _,_,h=>by simp[puD] at h
 | .lst,_,h=>by simp[puD] at h
 | .dct,_,h=>by simp[puD] at h
theorem eqL_iff:∀{xs ys:oj D},puL xs=v_->(eqL xs ys=v_↔xs=ys)
 | [],[],_=>by simp[eqL]
 | [],_::_,_=>by simp[eqL]
 |_::_,[],_=>by simp[eqL]
 |x::r,y::q,h=>by
  have h':puD x=v_/\puL r=true:=by simpa [puL] using h
  simp![eqL,uC,DM h'.1,eqL_iff h'.2,UF]
end
mutual
theorem Is.det {H:Hp}:∀{d e:D}{v:V},puD d=v_->puD e=v_->Is H d v->Is H e v->d=e
 | .str a,e,v,_,he,h1,h2=>by
  obtain⟨rfl,_⟩:=(show v= .str a/\_ from h1)
  cases e with
  |str b=>obtain⟨q,_⟩:=(show V.str a=V.str b/\_ from h2);cases q;rfl
  |int b=>cases(show V.str a=V.int b from h2)
  |tup ys=>erw[h2,p,us,q,_];cases q
  |_=>simp[puD] at he
 | .int a,e,v,_,he,h1,h2=>by
  cases(show v= .int a from h1)
  cases e with
  |str b=>obtain⟨q,_⟩:=(show V.int a=V.str b/\_ from h2);cases q
  |int b=>cases(show V.int a=V.int b from h2);rfl
  |tup ys=>erw[h2,p,us,q,_];cases q
  |_=>simp[puD] at he
 | .tup xs,e,v,hd,he,h1,h2=>by
  erw[h1,p,vs,rfl,Z,hl];cases e with
  |str b=>obtain⟨q,_⟩:=(show V.ref p=V.str b/\_ from h2);cases q
  |int b=>cases(show V.ref p=V.int b from h2)
  |tup ys=>
   erw[h2,p',us,q,O,U];cases q;rw[Z] at O;cases O;rw[IsL.det (by simpa [puD] using hd) (by simpa [puD] using he) hl U]
  |_=>simp[puD] at he
 | .non,_,_,hd,_,_,_=>by simp[puD] at hd
 | .bl _,_,_,hd,_,_,_=>by simp[puD] at hd
 | .lst,_,_,hd,_,_,_=>by simp[puD] at hd
 | .dct,_,_,hd,_,_,_=>by simp[puD] at hd
theorem IsL.det {H:Hp}:∀{xs ys:oj D}{vs:oj V},puL xs=v_->puL ys=v_->IsL H xs vs->IsL H ys vs->xs=ys
 | [],[],_,_,_,_,_=>rfl
 | [],_::_,_,_,_,h1,h2=>by
  cases(show _= [] from h1)
  erw[h2,v,r,q,_];cases q
 |_::_,[],_,_,_,h1,h2=>by
  cases(show _= [] from h2)
  erw[h1,v,r,q,_];cases q
 |x::xs,y::ys,_,hd,he,h1,h2=>by
  erw[h1,v,r,rfl,Z,a2];erw[h2,v',r',q,b1,b2];cases q;have O:puD x=v_/\puL xs=true:=by simpa [puL] using hd
  have U:puD y=v_/\puL ys=true:=by simpa [puL] using he
  rw[Is.det O.1 U.1 Z b1,IsL.det O.2 U.2 a2 b2]
end
def so:∀(xs ys:oj D),eqL xs ys=((V1 (min ↑xs ↑ys)).all (λj=>eqD (xs.getD j .non) (ys.getD j .non))&&↑xs==↑ys)
 | [],[]=>by simp[eqL]
 | [],_::_=>by simp[eqL]
 |_::_,[]=>by simp[eqL]
 |x::r,y::q=>by
  have O:=so r q;rw[um,um,show min (↑r+1) (↑q+1)=min ↑r ↑q+1 by omega,T7,vq,Uw]
  have e:(V1 (min ↑r ↑q)).all ((λj=>eqD ((x::r).getD j .non) ((y::q).getD j .non))∘tX)=(V1 (min ↑r ↑q)).all λj=>eqD (r.getD j .non) (q.getD j .non):=by congr 1
  rw[e];have U:(↑r+1==↑q+1)=(↑r==↑q):=by rw[vH];simp
  rw[U,FH,<-O]
  rfl
section
variable {X:Cx}{oq:oj (o3×Obj)}{σ:St}{H:Hp}{s:o7}
variable {z:Str}{e:D}{A:oh}
def IL (I:#[I]){t:Tok}{u:V}{b:o6}(U:puD e=v_)(h2:Is H e u)(O:ik u b)(Z:A.units<V3):Va A s (.str z t) b (eqD (.str z) e):=by
 cases e with
 |str y=>
  obtain⟨rfl,_⟩:=(show u= .str y/\_ from h2)
  erw[O,t2,rfl];exact tj _ _ _ _
 |int y=>
  cases(show u= .int y from h2)
  erw[O,t2,rfl];exact Uy _ _ _ _
 |tup ys=>
  erw[id h2,p,us,rfl,hp,hl];cases O;erw[I.tuple (.inl (.of hp)),its,_,q,_];exact r_ _ _ q Z
 |_=>simp[puD] at U
def AE (I:#[I]){z:Int}{t:Tok}{u:V}{b:o6}(U:puD e=v_)(h2:Is H e u)(O:ik u b)(Z:A.units<V3):Va A s (.int z t) b (eqD (.int z) e):=by
 cases e with
 |str y=>
  obtain⟨rfl,_⟩:=(show u= .str y/\_ from h2)
  erw[O,t2,rfl];exact Ux _ _ _ _
 |int y=>
  cases(show u= .int y from h2)
  erw[O,t2,rfl];exact HV _ _ _ _
 |tup ys=>
  erw[id h2,p,us,rfl,hp,hl];cases O;erw[I.tuple (.inl (.of hp)),its,_,q,_];exact FE _ _ q Z
 |_=>simp[puD] at U
def wD:∀{xs:oj D}{j:Nat}{x:D},puL xs=v_->xs[j]? =u_ x->puD x=v_
 | [],_,_,_,e=>by simp at e
 |y::r,0,x,h,e=>by
  have h':puD y=v_/\puL r=true:=by simpa [puL] using h
  have:y=x:=by simpa using e
  exact this▸h'.1
 |y::r,j+1,x,h,e=>by
  have h':puD y=v_/\puL r=true:=by simpa [puL] using h
  exact wD h'.2 (by simpa using e)
def IK (I:#[I]){xs:oj D}{e:D}{v u:V}{a b:o6}{A:oh}(hd:puD (.tup xs)=v_)(he:puD e=v_)(h1:Is H (.tup xs) v)(h2:Is H e u)(r1:ik v a)(r2:ik u b)(hu:A.units<V3)
  (ih:∀x∈xs,∀(e:D) (v u:V) (a b:o6),puD x=v_->puD e=v_->Is H x v->Is H e u->ik v a->ik u b->Va A.in1 s a b (eqD x e)):Va A s a b (eqD (.tup xs) e):=by
 erw[id h1,p,vs,rfl,hp,hl];cases r1;erw[I.tuple (.inl (.of hp)),its,rv,q,_];cases e with
 |str y=>
  obtain⟨rfl,_⟩:=(show u= .str y/\_ from h2)
  erw[r2,t2,rfl];exact Tn _ _ q hu
 |int y=>
  cases(show u= .int y from h2)
  erw[r2,t2,rfl];exact rW _ _ q hu
 |tup ys=>
  by_cases hv:V.ref p=u
  ·have:=Is.det (e:= .tup ys) hd he h1 (hv▸h2);subst hv;cases r2;rw[<-this,(DM hd).mpr rfl];exact GZ _
  ·erw[id h2,p',us,rfl,aa,O];cases r2;erw[I.tuple (.inl (.of aa)),its',U,q',_];have l1:↑its=↑xs:=by rw[<-↑rv,↑hl]
   have l2:↑its'=↑ys:=by rw[<-↑U,↑O]
   have ac:puL xs=true:=by simpa [puD] using hd
   have ad:puL ys=true:=by simpa [puD] using he
   have ae:=UK (e:=λj=>eqD (xs.getD j .non) (ys.getD j .non)) q q' hu λj a1 a2=>by
    have Z:j<↑xs:=by rw[<-l1];simpa using a1
    have j2:j<↑ys:=by rw[<-l2];simpa using a2
    obtain⟨v1,e1,i1⟩:=hl.get (i:=j) (d:=xs[j]) (by simp[Z])
    obtain⟨v2,e2,i2⟩:=O.get (i:=j) (d:=ys[j]) (by simp[j2])
    erw[rv.get e1,b1,f1,g1];erw[U.get e2,b2,f2,g2];have k1:its.toArray[j]=b1:=by
     have:=f1;rw[uq (by rwa[l1])] at this
     simpa using this
    have k2:its'.toArray[j]=b2:=by
     have:=f2;rw[uq (by rwa[l2])] at this
     simpa using this
    have d1:xs.getD j .non=xs[j]:=by simp[Vx,Z]
    have d2:ys.getD j .non=ys[j]:=by simp[Vx,j2]
    show Va _ s _ _ (eqD (xs.getD j .non) (ys.getD j .non));rw[k1,k2,d1,d2];exact ih _ (uY Z) _ _ _ _ _ (wD (j:=j) ac (by simp[Z])) (wD (j:=j) ad (by simp[j2])) i1 i2 g1 g2
   have e1:eqD (.tup xs) (.tup ys)=((V1 (min its.toArray.size its'.toArray.size)).all (λj=>eqD (xs.getD j .non) (ys.getD j .non))&&its.toArray.size==its'.toArray.size):=by
    rw[uw,uw,l1,l2,<-so];simp![eqD]
   rw[e1];exact TH (λz=>hv (by rw[z])) ae
 |_=>simp[puD] at he
def KS (I:#[I]):∀(n:Nat) (d e:D) (v u:V) (a b:o6) (A:oh),dp d<=n->puD d=v_->puD e=v_->Is H d v->Is H e u->ik v a->ik u b->A.units+n<V3->Va A s a b (eqD d e):=by
 intro n
 induction n with
 |zero=>
  intro d e v u a b A hn hd U h1 h2 Z r2 hu;cases d with
  |int z=>
   cases(show v= .int z from h1)
   erw[Z,t,rfl];exact AE I U h2 r2 hu
  |str z=>simp[dp] at hn
  |tup xs=>simp[dp] at hn
  |_=>simp[puD] at hd
 |succ n ih=>
  intro d e v u a b A hn hd U h1 h2 Z r2 hu;have O:A.units<cLine:=Uc (UP _ _) hu;cases d with
  |int z=>
   cases(show v= .int z from h1)
   erw[Z,t,rfl];exact AE I U h2 r2 O
  |str z=>
   obtain⟨rfl,_⟩:=(show v= .str z/\_ from h1)
   erw[Z,t,rfl];exact IL I U h2 r2 O
  |tup xs=>
   have hm:dpL xs<=n:=by
    have:dp (.tup xs)=1+dpL xs:=by simp![dp]
    omega
   exact IK I hd U h1 h2 Z r2 O λx hx e v u a b k1 k2 k3 k4 k5 k6=>ih x e v u a b A.in1 ((wm xs).mp hm x hx) k1 k2 k3 k4 k5 k6 (by rw[uT];omega)
  |_=>simp[puD] at hd
end
section
variable {X:Cx}
nonrec def trD:D->Bool
 | .str _=>v_
 | .tup xs=>puL xs
 |_=>UT
variable {oq:oj (o3×Obj)}{σ:St}{H:Hp}{s:o7}{A:oh}{n:Nat}{its:oj o6}
def EW (I:#[I]){xs ys:oj D}{vs us:oj V}{its':oj o6}(hn:dpL xs<=n)(hd:puL xs=v_)(he:puL ys=v_)(hl:IsL H xs vs)(O:IsL H ys us)(rv:im vs its)(U:im us its')(hu:A.units+n<V3):
  ∀j (a1:j<its.toArray.size) (a2:j<its'.toArray.size),Va A s its.toArray[j] its'.toArray[j] (eqD (xs.getD j .non) (ys.getD j .non)):=λj a1 a2=>by
 have l1:↑its=↑xs:=by rw[<-↑rv,↑hl]
 have l2:↑its'=↑ys:=by rw[<-↑U,↑O]
 have Z:j<↑xs:=by rw[<-l1];simpa using a1
 have j2:j<↑ys:=by rw[<-l2];simpa using a2
 obtain⟨v1,e1,i1⟩:=hl.get (i:=j) (d:=xs[j]) (by simp[Z])
 obtain⟨v2,e2,i2⟩:=O.get (i:=j) (d:=ys[j]) (by simp[j2])
 erw[rv.get e1,b1,f1,g1];erw[U.get e2,b2,f2,g2];have k1:its.toArray[j]=b1:=by
  have:=f1;rw[uq (by rwa[l1])] at this
  simpa using this
 have k2:its'.toArray[j]=b2:=by
  have:=f2;rw[uq (by rwa[l2])] at this
  simpa using this
 have d1:xs.getD j .non=xs[j]:=by simp[Vx,Z]
 have d2:ys.getD j .non=ys[j]:=by simp[Vx,j2]
 rw[k1,k2,d1,d2];exact KS I n _ _ _ _ _ _ A ((wm xs).mp hn _ (uY Z)) (wD (j:=j) hd (by simp[Z])) (wD (j:=j) he (by simp[j2])) i1 i2 g1 g2 hu
variable {e:D}{y:V}{u:o6}
def Abf (I:#[I]){d:D}{x:V}{v:o6}(h1:Is H d x)(h2:Is H e y)(p1:trD d=v_)(p2:trD e=v_)(hn:dp d<=60)(rx:ik x v)(ry:ik y u)(hu:A.units+64<V3):
  T_ A s v u (eqD d e)/\Fa A s v u (!eqD d e):=by
 have O:A.units<cLine:=by omega
 cases d with
 |str z=>
  obtain⟨rfl,_⟩:=(show x= .str z/\_ from h1)
  erw[rx,t,rfl];cases e with
  |str w=>
   obtain⟨rfl,_⟩:=(show y= .str w/\_ from h2)
   erw[ry,t2,rfl];exact[Rq _ _ _ _:Rm _ _ _ _]
  |tup ys=>
   erw[id h2,p,us,rfl,hp,hl];cases ry;erw[I.tuple (.inl (.of hp)),its,_,q,_];exact[Rz _ _ q O:RH _ _ q O]
  |_=>simp[trD] at p2
 |tup xs=>
  erw[id h1,p,vs,rfl,hp,hl];cases rx;erw[I.tuple (.inl (.of hp)),its,rv,q,_];cases e with
  |str w=>
   obtain⟨rfl,_⟩:=(show y= .str w/\_ from h2)
   erw[ry,t2,rfl];exact[Rp _ _ q O:Ri _ _ q O]
  |tup ys=>
   erw[id h2,p',us,rfl,aa,U];cases ry;erw[I.tuple (.inl (.of aa)),its',Z,q',_];have hm:dpL xs<=60:=by
    have:dp (.tup xs)=1+dpL xs:=by simp![dp]
    omega
   have l1:↑its=↑xs:=by rw[<-↑rv,↑hl]
   have l2:↑its'=↑ys:=by rw[<-↑Z,↑U]
   have pe:=EW I (A:=A.in1) hm (by simpa [trD] using p1) (by simpa [trD] using p2) hl U rv Z (by rw[uT];omega)
   have e1:eqD (.tup xs) (.tup ys)=((V1 (min its.toArray.size its'.toArray.size)).all (λj=>eqD (xs.getD j .non) (ys.getD j .non))&&its.toArray.size==its'.toArray.size):=by
    rw[uw,uw,l1,l2,<-so];simp![eqD]
   rw[e1];exact[UK q q' O pe:TQ q q' O pe]
  |_=>simp[trD] at p2
 |_=>simp[trD] at p1
inductive SZ (g:Bool->Bool)(x:V)(y:V)(H:Hp)(Q:VK):Prop
 |mk (d e:D)(_:Is H d x)(_:Is H e y)(_:trD d=v_)(_:trD e=v_)(_:dp d<=60)(_:Q (.bl (g (eqD d e))) H)
def Cz (O:X.A.units+64<V3):OpR X (V4 .Eq) (SZ id):=by
 exists 2,x,y,v,u,Q,I,U,Z,h;erw[h,d,e,h1,h2,p1,p2,hn,q];exact(Abf I h1 h2 p1 p2 hn U Z O).1 X.prog X.w X.xe _ ⟨.bl _,H,I,1,q⟩
end
variable {X:Cx}
def Jm:YN X (.builtin "len") (λxs H Q=>(∃z:Str,xs= [.str z]/\↑z<=UX/\Q (.int ↑z) H)∨∃p ys,xs= [.ref p]/\(SqL X.K H p ys∨SqT X.K H p ys)/\(↑ys<=UX->Q (.int ↑ys) H)):=by
 exists 2,xs,us,Q,I,r,h;rcases h with⟨z,e,O,q⟩|h
 ·exact W3 oq s σ H xs us Q I r ⟨_,↑z,e,[O:1],q⟩
 ·exact D7 oq s σ H xs us Q I r h
nonrec def Aam (K:o0)(n:Nat)(t:TGs):TG:=λv σ H Q=>∃a xs,v= .ref a/\SqL K H a xs/\↑xs=n/\t xs σ H Q
def Mh {X:Cx}{es:oj Expr}{k:Nat}{t:TGs}{n:Nat}{pos:Pos}(Z:X.calm=v_)(h:PGs X es t)
  (hn:↑(Vs es X.env)=n) (O:(Vs es X.env).findIdx? (·.1)=US):PG X (.Tuple es k pos) (Aam X.K n t):=by
 exists 2,v,u,Q,I,r,U;erw[U,a,xs,e1,hq,hl,U];subst e1;cases r;erw[I.list hq,its,rv,ht,hz];rw[assign_Tuple];refine A7 (GE ?_);unfold unpack;rw[O,hn,<-hl,show ↑xs=its.toArray.size by simp[rv.length]]
 refine A7 (Vq (PySem.W.kun_itemsOf (I.ok.hd Z) ht.isList λh' hx=>?_));have I1:Inv X oq σ H {s with heap:=h'}:=I.kept (t':=s.toks) λb o e=>hx b o (uR (uI e)) e
 exact h oq _ σ H xs _ Q I1 (by simpa using rv) U
variable {w:og}{K:o0}{mg:Str->om o6}{f:o3}{A:oh}
def S5 {P:o9}{base:o8}{N:oj Str}{qual:Str}{scope:V9}{cd:o6}{outer:oj Env}{s₀:o7}{H₀:Hp}{E:XK}:
  XM (CX1 P w) (cxOf (CX1 P w) P w K mg base N qual scope f cd A outer s₀ H₀ E) E:=by
 intro oq σ H s e s' I h;erw[h,ea,C,a0,H',B,rfl,au,ae,htk,aw,al,am,hold,hE];show UU (V8 P w) (A.deeper (U_ qual scope #[0,s₀] f cd)) (tU (U_ qual scope #[0,s₀] f cd) (.ref ea)) (λ_ af=>CX1 P w outer H₀ s₀ E (.ref ea) af) (λe' af=>CX1 P w outer H₀ s₀ E e' af) _;have ax:(A.deeper (U_ qual scope #[0,s₀] f cd)).frames=u_ (U_ qual scope #[0,s₀] f cd::outer):=I.ok.frames;have ag:frs (U_ qual scope #[0,s₀] f cd::outer)=#[0,s₀]::frs outer:=rfl;have O:Un (frs outer) [] H₀ H s₀.heap s.heap:=I.base;have U:Un (frs (U_ qual scope #[0,s₀] f cd::outer)) [] H H' s.heap s'.heap:=aw;have aa:rN B (U_ qual scope #[0,s₀] f cd::outer) ea (.ref C) a0 s'.heap:=am;have ac:∀b o,s.heap.get? b=u_ o->b∉frs (U_ qual scope #[0,s₀] f cd::outer)->∃o',B.get? b=u_ o':=hold;have ay:=aa.2.2.1;have ad:∀b o,s₀.heap.get? b=u_ o->b∉frs outer->b∉frs (U_ qual scope #[0,s₀] f cd::outer):=λb o e hb hm=>by
  rw[ag] at hm;rcases Aa.mp hm with rfl|hm
  ·exact A8 (uI e) (vF _)
  ·exact hb hm
 have nd:∀b∈frs outer,∀o,s'.heap.get? b=u_ o->∀vs,o.data≠ .fields vs:=λb hb o e=>by
  obtain⟨_,o',e',hn⟩:=ay.mem (show b∈(U_ qual scope #[0,s₀] f cd::outer).filterMap (·.frame) from by rw[show(U_ qual scope #[0,s₀] f cd::outer).filterMap (·.frame)=frs (U_ qual scope #[0,s₀] f cd::outer) from rfl,ag];exact uh _ hb)
  rw[e] at e';cases e';exact hn
 refine wpAny_leaves_onW (base:=B) (L:=#[0,s₀]) ax rfl aa λaA ah ao=>?_;have aB:∀b o o',B.get? b=u_ o'->s'.heap.get? b=u_ o->aA.get? b=u_ o:=λb o o' Z e2=>by
  have:=aa.1 b o' Z;rw[e2] at this;cases this;exact ah.1 b o Z
 exists ea,C,a0,H',B,1,au.trans I.os,ae,htk,⟨?_,?_,?_,?_,?_,?_,?_⟩,al,ah,?_,hE
 ·intro b o Z hn hb hx;have e2:=O.keep b o Z hn hb hx;have ak:=O.free b o Z hn hx;have ap:=ad b o Z hb;have e3:=U.keep b o e2 ak ap hx;erw[ac b o e2 ap,o',e4];exact aB b o o' e4 e3
 ·intro b o Z hn hb hx;erw[O.slot b o Z hn hb hx,sl,e2];have ak:=O.free b o Z hn hx;obtain⟨aC,e3⟩:=U.slot b _ e2 ak (by rw[ag];exact uh _ hb) hx
  erw[ao b _ e3 (nd b hb _ e3),aq,e4];exact[aq:e4]
 ·intro b o Z hn hx;erw[O.there b o Z hx,o',e2];exact U.free b o' e2 (O.free b o Z hn hx) hx
 ·intro b o Z hx;erw[O.there b o Z hx,o',e2];by_cases hb:b∈frs outer
  ·erw[U.there b o' e2 hx,o2,e3];erw[ao b _ e3 (nd b hb _ e3),aq,e4];exact[_:e4]
  ·erw[ac b o' e2 (ad b o Z hb),o2,e3];exact[o2:ah.1 b o2 e3]
 ·exact λb xs e=>U.tups b xs (O.tups b xs e)
 ·exact λb o u e=>U.frzs b o u (O.frzs b o u e)
 ·intro b ps e;erw[O.tbls b ps e,m1,Z];erw[U.tbls b _ Z,m2,e2];exact⟨m1++m2,by rwa[<-tH]⟩
 ·intro b o Z hb;obtain⟨o',e2⟩:=O.there b o Z (by simp)
  exact ac b o' e2 (ad b o Z hb)
def OU:XM (CX1 X.prog X.w) X E0:=λ_ _ _ _ _ _ _ h=>by
 erw[h,_,_,_,_,_,_,_,_,_,_,_,_,_,z];exact Vh z
end L2
namespace L2
open PySem PyProof.Rows
variable {H:Hp}{p:o3}
def Tk.updD {xs ys:oj (Key×V)}(h:H p=u_ (.dK xs)):Tk H (upd H p (.dK ys)):=by
 exists λb zs e=>?_,λb zs e=>[zs:?_],λb zs e=>?_
 ·rw[qk (λz=>by rw[z,h] at e;cases e)];exact e
 ·rw[qk (λz=>by rw[z,h] at e;cases e)];exact e
 ·by_cases z:b=p
  ·exact⟨ys,by rw[z];exact qg⟩
  ·exact⟨zs,by rwa[qk z]⟩
variable {C dx:o3}
def Tk.updI {O dx':o3}{xs ys:oj (Str×V)}(h:H p=u_ (.ins C dx xs)):Tk H (upd H p (.ins O dx' ys)):=
 ⟨λb zs e=>by rw[qk (λz=>by rw[z,h] at e;cases e)];exact e,λb zs e=>⟨zs,by rw[qk (λz=>by rw[z,h] at e;cases e)];exact e⟩,λb zs e=>⟨zs,by rw[qk (λz=>by rw[z,h] at e;cases e)];exact e⟩⟩
section
variable {X:Cx}
inductive L5 (x:V)(vs:List V)(H:Hp)(Q:VK):Prop
 |mk (z y:Str)(_:x= .str z)(_:vs= [.str y])(_:Q (.bl (VS z y)) H)
def C8:MtM X "str.startswith" L5:=by
 exists 2,x,vs,v,us,Q,I,O,rv,h;erw[h,z,y,rfl,rfl,q];erw[O,t,rfl];erw[rv.one,u,rfl,t',rfl];exact SC.startswith ⟨.bl (VS z y),H,I,1,q⟩
end
def Nc {d A:o3}{o:Obj}{H1:Hp}{tc:TT}{te:TE}{tl:St}{Q:VK}{kvs:oj (Key×V)}{ls:oj Str}(p:Str->Bool)(f:Str->V)(hd:H1 d=u_ (.frz o (.dK kvs)))(hk:kvs.map (·.1)=ls.map UV)(hn:↑ls<=UX)(hA:H1 A=US)
  (U:∀z H (R:Bool->Hp->Prop),z∈ls->ic H1 H->R (p z) H->tc (u_ (.str z)::tl) H R)
  (Z:∀z H (R:VK),z∈ls->ic H1 H->R (f z) H->te (u_ (.str z)::tl) H R)
  (hQ:∀H',ic H1 H'->H' A=u_ (.lst ((ls.filter p).map f))->Q (.ref A) H'):Di A (Itd d o) (ji 0) tc te (US::tl) H1 Q:=by
 have ac:↑kvs=↑ls:=by
  have:=A9 VD hk
  simpa using this
 exists ↑ls,λi σ ys H=>(∃w,σ=w::tl)/\ys=((ls.take i).filter p).map f/\ic H1 H,hn,[[US:1]:1:qf hA _],?_,?_
 ·rintro i σ ys H hi ⟨⟨w,rfl⟩,rfl,sm⟩ O hy;exists [kvs:sm _ _ hd:()]
  rintro x H' ⟨rfl,hx⟩;have e:=hx kvs (sm _ _ hd);have e2:(kvs.map λp=>kV p.1)[i]? =u_ (V.str ls[i]):=by
   have:(kvs.map λp=>kV p.1)=(kvs.map (·.1)).map kV:=by rw[uU];rfl
   rw[this,hk,uU,uN,uq hi]
   rfl
  rw[e2] at e;cases e;have et:ls.take (i+1)=ls.take i++ [ls[i]]:=by rw[vD,uq hi];rfl
  have aa:∀ys,ic H1 (upd H' A (.lst ys)):=λys b o' e=>by
   rw[qk (ql e hA)];exact sm _ _ e
  dsimp![ji,G7];refine U ls[i] H' _ (uY hi) sm ?_;cases hp:p ls[i] with
  |true=>
   refine i9 (Z ls[i] H' _ (uY hi) sm ⟨O,⟨0⟩,?_,aa _⟩);rw[et,Hr,uz];simp[hp]
  |false=>
   refine iS ⟨O,⟨0⟩,?_,sm⟩;rw[et,Hr,uz];simp[hp]
 ·rintro σ ys H ⟨_,rfl,sm⟩ O;rw[Us] at O;exact[[kvs:sm _ _ hd:()]:hQ H sm O]
def Na {K:o0}{a A:o3}{H1:Hp}{te:TE}{tl:St}{Q:VK}{ls:oj Str}(C:Nat->oj V->Hp->Prop)(ha:H1 a=u_ (.lst (ls.map V.str)))(hn:↑ls<=UX)(hA:H1 A=US)(h0:C 0 [] (upd H1 A (.lst [])))
  (aa:∀i z ys H,ls[i]? =u_ z->C i ys H->H A=u_ (.lst ys)->H a=u_ (.lst (ls.map V.str))->↑ys<=i->∀R:VK,(∀y H4,H4 A=u_ (.lst ys)->H4 a=u_ (.lst (ls.map V.str))->C (i+1) (ys++ [y]) (upd H4 A (.lst (ys++ [y])))->R y H4)->te (u_ (.str z)::tl) H R)
  (hQ:∀ys H,C ↑ls ys H->H A=u_ (.lst ys)->Q (.ref A) H):Di A (Itl K a) (ji 0) AW te (US::tl) H1 Q:=by
 have U:a≠A:=ql ha hA;refine⟨↑ls,λi σ ys H=>(∃w,σ=w::tl)/\C i ys H/\H a=u_ (.lst (ls.map V.str)),hn,⟨[US:1],h0,by rwa[qk U]⟩,?_,?_⟩
 ·rintro i σ ys H hi ⟨⟨w,rfl⟩,hc,Z⟩ O hy;have e0:(ls.map V.str)[i]? =u_ (V.str ls[i]):=by rw[uN,uq hi];rfl
  exists ⟨_,_,SqL.of Z,e0⟩;rintro x H' ⟨rfl,hx⟩;have e:=hx _ (SqL.of Z);rw[e0] at e;cases e;dsimp![ji,AW,G7];rw[A6 rfl];exact aa i ls[i] ys H' (uq hi) hc O Z hy _ λy H4 h4 h5 c4=>⟨h4,⟨0⟩,c4,by rwa[qk U]⟩
 ·rintro σ ys H ⟨_,hc,Z⟩ O;exact⟨⟨_,SqL.of Z,by simp⟩,hQ ys H hc O⟩
section
variable {X:Cx}{K:o0}{o e:Expr}{es:oj Expr}{to:TE}{t:TA}{name:Str}{apos cpos:Pos}{T id:String}{r:V->oj V->Hp->VK->Prop}
def OT (hK:X.K=K)(pa:tY T)(slot:Slot T name id)(ac:typeOf (.builtin id)=pure (.type "method_descriptor"))(hm:MtR X id r)(ho:PE X o to)(ha:PA X (e::es) t)
  (U:gS o name X.env (eval o X.env)=eval o X.env)
  (aa:((V6 cpos (UY (e::es) X.env)).all (λx=> !x.1)&&(Gf cpos (Gb [] X.env)).all (λx=>x.1.isSome)
   &&decide (↑(e::es)+↑([]:oj gW)+(if([]:oj gW).isEmpty then 0 else 1)<30))=v_)
  (Z:(apos.endLine==cpos.line)=v_) (hs:UY (e::es) X.env=(UT,eval e X.env)::UY es X.env) (O:(V6 cpos (UY es X.env)).any (·.1)=UT):
  PE X (.Call (.Attribute o name apos) (e::es) [] cpos) (tBM K T r to t):=by
 subst hK;exact jY pa slot ac hm ho ha U aa Z hs O
end
nonrec def Kt:D->Bool
 | .non=>v_
 |d=>trD d
section
variable {X:Cx}
inductive Abn (x:V)(y:V)(H:Hp)(Q:VK):Prop
 |mk (d:D)(z:Str)(_:Is H d x)(_:y= .str z)(_:↑z<=1000)(_:Kt d=v_)(_:dp d<=60)(_:Q (.bl (eqD d (.str z))) H)
def OZ (hu:X.A.units+64<V3):OpR X (V4 .Eq) Abn:=by
 exists 2,x,y,v,u,Q,I,O,U,h;erw[h,d,z,hd,rfl,hz,Z,hp,q];cases d with
 |non=>
  cases(show x= .non from hd)
  exact Qq oq s σ H .non (.str z) v u Q I O U ⟨1,by simpa [eqD] using q⟩
 |str a=>exact Cz hu oq s σ H x _ v u Q I O U ⟨_,.str z,hd,⟨1,by rw[uD];omega⟩,Z,1,hp,q⟩
 |tup a=>exact Cz hu oq s σ H x _ v u Q I O U ⟨_,.str z,hd,⟨1,by rw[uD];omega⟩,Z,1,hp,q⟩
 |_=>simp[Kt,trD] at Z
inductive Abl (K:PySem.W.Frag)(x:V)(y:V)(H:Hp)(Q:VK):Prop
 |mk (d:D)(p:Addr)(ls:List Str)(_:Is H d x)(_:y= .ref p)(_:(SqL K H p (ls.map V.str)∨SqT K H p (ls.map V.str)))(_:(∀z∈ls,↑z<=1000))(_:Kt d=v_)(_:dp d<=60)(_:Q (.bl (ls.any λz=>eqD d (.str z))) H)
def DI (us:oj Str):(us.map V.str).all Zb=true:=by
 rw[Uw,U5];exact λ_ _=>rfl
def Kq (hu:X.A.units+64<V3):OpR X (V4 .In) (Abl X.K):=by
 exists 2,x,y,v,u,Q,I,rx,ry,h;erw[h,d,p,ls,hd,rfl,O,ac,hk,hp,q];cases d with
 |non=>
  cases(show x= .non from hd)
  refine QT oq s σ H .non _ v u Q I rx ry ⟨p,0,O,1,DI _,?_⟩;have e:inV .non (ls.map V.str)=ls.any λz=>eqD .non (.str z):=by
   unfold inV;rw[tV]
   rfl
  rwa[A4 uc,e]
 |str a=>
  erw[hd,rfl,_];refine QT oq s σ H _ _ v u Q I rx ry ⟨p,0,O,1,DI _,?_⟩;have e:inV (.str a) (ls.map V.str)=ls.any λz=>eqD (.str a) (.str z):=by
   unfold inV;rw[tV];refine A9 (λf=>ls.any f) (funext λz=>?_);show(z==a)=(a==z);rw[vH,beq_iff_eq,beq_iff_eq];exact eq_comm
  rwa[A4 uc,e]
 |tup xs=>
  have e:(ls.any λz=>eqD (.tup xs) (.str z))=false:=by
   rw[tq];intro z _;simp[eqD]
  rw[e] at q;erw[hd,pa,vs,rfl,ha,hl];cases rx;cases ry;erw[I.tuple (.inl (.of ha)),ad,ae,af,_];have ag:X.A.units<cLine:=by omega
  have U:∀{its:oj o6},im (ls.map V.str) its->∀w∈its,∀A:oh,A.units+1<V3->Va A s w (.ref pa) false:=by
   intro its r w Z A hA;erw[List.mem_iff_getElem?.mp Z,j,hj];have aa:j<↑ls:=by
    have:=(Af.mp hj).1;have:=↑r;rw[ue] at this;omega
   obtain⟨u',e1,e2⟩:=r.get (i:=j) (x:=V.str ls[j]) (by rw[uN,uq aa];rfl)
   rw[hj] at e1;cases e1;have:=KS I 1 (.str ls[j]) (.tup xs) (.str ls[j]) (.ref pa) _ (.ref pa) A (by simp[dp]) rfl (by simpa [Kt,trD,puD] using hk) ⟨1,by have:=ac _ (uY aa);rw[uD];omega⟩ ⟨pa,vs,1,ha,hl⟩ e2 rfl ()
   simpa [eqD] using this
  rcases O with O|O
  ·erw[I.list O,its,r,pl,hz];refine TN (λ_=>UT) pl.isList (λw Z=>U r w (by simpa using Z) _ ?_) ⟨.bl _,H,I,1,?_⟩
   ·first|omega|(rw[uT];omega)|(rw[uT,uT];omega)|(rw[uT,uT,uT];omega)
   ·rw[show its.toArray.any (λ_=>UT)=UT by rw[Tj];exact List.any_eq_false.mpr λ_ _=>uc]
    exact q
  ·erw[I.tuple O,its,r,pl,hz];refine rg (λ_=>UT) pl (λw Z=>U r w (by simpa using Z) _ ?_) ⟨.bl _,H,I,1,?_⟩
   ·first|omega|(rw[uT];omega)|(rw[uT,uT];omega)|(rw[uT,uT,uT];omega)
   ·rw[show its.toArray.any (λ_=>UT)=UT by rw[Tj];exact List.any_eq_false.mpr λ_ _=>uc]
    exact q
 |_=>simp[Kt,trD] at hk
end
end L2
namespace L2
open PySem PySem.Spec PyProof.Rows Builtin Builtin.Str
nonrec def Oq (P:o9)(w:og)(K:o0)(mg:Str->om o6)(base:o8)(k:Nat)(tf:TE)(t:TA):TE:=λσ H Q=>tf σ H λv H1=>∃(f:o3) (fd:UW) (ps:oj Str) (sp:Sp),v= .ref f/\
 FnOk P w K mg base CX0 k f fd ps sp/\zi K fd ps []/\PySem.W.keepIn K (.ref f)=v_/\t σ H1 λvs H2=>sp vs H2 Q E0
def EU {X:Cx}{o i e:Expr}{es:oj Expr}{O pos:Pos}{Z:TE}{t:TA}{k:Nat}{P:o9}{w:og}{K:o0}{mg:Str->om o6}{base:o8}(e1:X.prog=P/\X.w=w/\X.K=K/\X.mg=mg/\X.base=base)(hf:PE X (.Subscript o i O) Z)(hr:mq k X.A)(ha:PA X (e::es) t)
  (he:UY (e::es) X.env=(UT,eval e X.env)::UY es X.env) (U:(V6 pos (UY es X.env)).any (·.1)=UT):
  PE X (.Call (.Subscript o i O) (e::es) [] pos) (Oq P w K mg base k Z t):=by
 erw[e1,rfl,rfl,rfl,rfl,rfl];exists 2,Q,I,h;show UU _ _ (do HY pos (<-eval (.Subscript o i O) X.env) [] (V6 pos (UY (e::es) X.env)) (Gf pos (Gb [] X.env))) _ _ s
 refine A7 (thn (hf oq s σ H _ I h) λu s1 zq=>?_);erw[zq,v,H1,I1,rv,f,fd,ps,sp,ev,F,hb,hk,q];subst ev;obtain rfl:u=UZ f:=rv;refine UA (h₀:=X.base) I1.ok.mod.kin hk (thn (ha pos oq s1 σ H1 _ I1 q) λus s2 ⟨vs,H2,I2,r,q2⟩=>[I2.kIn:?_]) he U;exact sU (ds:= []) (dvs:= []) F hr hb .nil qz I2 r (by rw[vQ];exact q2)
def W4 (z y:Str)(hi O:Nat):∀(l:oj Nat) (st:Array Nat×Nat),(Vu l st (VN z y hi O)).run.fst.size<=st.fst.size+↑l
 | [],st=>uj _
 |a::l,st=>by
  rw[Uh];unfold VN;split
  ·refine uQ (W4 z y hi O l _) ?_;simp![FR,um];omega
  ·refine uQ (W4 z y hi O l _) ?_;simp![um];omega
def MS (z y:Str)(n:Nat):↑(occurrences z y 0 ↑z n)<=↑z+1:=by
 rw[F_];have:=W4 z y ↑z n (gY 0 (↑z+1-0)) (#[],0);rw[vk];refine uQ this ?_;simp
nonrec def spG (z y:Str):oj Str:=if(decide (↑z<↑y)||decide (Vf z<Vf y))=v_ then [z] else if(occurrences z y 0 ↑z (↑z+1)).isEmpty=v_ then [z] else partsBetween z (occurrences z y 0 ↑z (↑z+1)) ↑y
def LU (z y:Str):↑(spG z y)<=↑z+2:=by
 unfold spG;have h:=MS z y (↑z+1);split
 ·simp
 ·split
  ·simp
  ·simp![partsBetween,ue,List.length_zip,um,uA,UD];omega
variable {z:Str}
def LT {y p:Str}(h:p∈spG z y):↑p<=↑z:=by
 unfold spG at h;split at h
 ·rw[vW] at h;subst h;exact uj _
 ·split at h
  ·rw[vW] at h;subst h;exact uj _
  ·simp![partsBetween,Ae] at h;erw[h,q,_,e];rw[<-e];exact strSub_length_le _ _ _
section
variable {X:Cx}
inductive L7 (x:V)(vs:List V)(H:Hp)(Q:VK):Prop
 |mk (z:_)(y:_)(_:x= .str z)(_:vs= [.str y])(_:0<↑y)(_:↑z<=1000)(_:∀p,H p=US->Q (.ref p) (upd H p (.lst ((spG z y).map V.str))))
def Da:MtM X "str.split" L7:=by
 exists 2,x,vs,v,us,Q,I,rx,rv,h;erw[h,z,y,rfl,rfl,hy,hz,q];erw[rx,t,rfl];erw[rv.one,u,rfl,t',rfl];have Z:↑z<=sizeLine:=by rw[uD];omega
 have O:(↑y==0)=false:=by simp;omega
 have one:spG z y= [z]->∀(T:Nat),0<T->EP X oq σ Q (.ref #[0,s]) {s with heap:=s.heap.push {cls:= .type "list",data:= .seq [Vj z t].toArray},toks:=T}:=λe T hT=>by
  rw[e] at q;exact JN (ys:= [V.str z]) I (.cons (show ik (V.str z) _ from[t:1]) .nil) (by show 1<=UX;decide) q
 cases h1:(decide (↑z<↑y)||decide (Vf z<Vf y)) with
 |true=>
  refine vK vA (vJ _ _ _) vx (vV _ _) (rV z y t t' h1) ?_;exact one (by unfold spG;rw[A6 h1]) s.toks I.tk
 |false=>
  cases U:(occurrences z y 0 ↑z (↑z+1)).isEmpty with
  |true=>
   refine vK vA (vJ _ _ _) vx (vV _ _) (TB z y t t' h1 O U) ?_;exact one (by unfold spG;rw[A4 (by rw[h1];decide),A6 U]) s.toks I.tk
  |false=>
   have hl:=LU z y;have e:spG z y=partsBetween z (occurrences z y 0 ↑z (↑z+1)) ↑y:=by unfold spG;rw[A4 (by rw[h1];decide),A4 (by rw[U];decide)]
   rw[e] at q hl;refine vK vA (vJ _ _ _) vx (vV _ _) (Tw z y t t' h1 O U Z (by rw[uD];omega)) ?_
   exact JN I (XG _ _) (by rw[ue,uD];omega) q
inductive OL (K:PySem.W.Frag)(x:V)(vs:List V)(H:Hp)(Q:VK):Prop
 |mk (sep:Str)(p:Addr)(l:List Str)(_:x= .str sep)(_:vs= [.ref p])(_:SqT K H p (l.map V.str))(_:(l.map (·.length)).sum+↑l*↑sep<=1000000)(_:Q (.str (V0 sep l)) H)
def Ir:MtM X "str.join" (OL X.K):=by
 exists 2,x,vs,v,us,Q,I,rx,rv,h;erw[h,sep,p,l,rfl,rfl,hp,hz,q];erw[rx,t,rfl];erw[rv.one,u,rfl,ru];cases ru;erw[I.tuple hp,its,r,pl,hl];erw[ZI r,ps,rfl,Z];have U:tooLong ((ps.map (·.1)).toArray.foldl (·+ ·.length+↑sep) 0)=false:=by
  rw[Z];have:=FX sep l;rw[this];unfold tooLong;refine uf ?_;rw[uD];omega
 refine vK F.slot_str_join (vJ _ _ _) F.entry_str_join (F.args_str_join_2 _ _) (meets_str_join_tuple sep t p ps U) ⟨(let⟨o,h1,h2,n,h3⟩:=pl;⟨o,n,h1,h2,h3⟩),?_⟩;have O:(glued sep (ps.map (·.1))).length<=sizeLine:=To U
 match ps,Z,O with
 | [],Z,O=>
  subst Z;exact⟨O,.str _,H,I.tok _,⟨0⟩,q⟩
 | [a],Z,_=>
  subst Z;exact⟨.str _,H,I,[a.2:1],q⟩
 |a::b::r,Z,O=>
  subst Z;exists O,.str _,H,I.tok _,⟨0⟩;rw[TD];exact q
def OC:SlR X (λx lo hi H Q=>AaN x lo hi H Q∨ST X.K x lo hi H Q):=OB.or pw
end
end L2
namespace L2
open PySem PySem.Spec PyProof.Rows
open Builtin.Int (intBits)
section
variable {X:Cx}
inductive Abm (K:PySem.W.Frag)(w:World)(x:V)(y:V)(H:Hp)(Q:VK):Prop
 |mk (z:_)(a:_)(r:_)(_:x= .str z)(_:y= .ref a)(_:Ee K w a)(_:PySem.W.nsIn K a z=u_ r)(_:Q (.bl r.isSome) H)
def OY:OpR X (V4 .In) (Abm X.K X.w):=by
 exists 2,x,y,v,u,Q,I,U,Z,h;erw[h,z,a,r,rfl,rfl,[hs,es,n,O,hk],hn,q];erw[U,t,rfl];cases Z;have hm:=PySem.W.mapOf_K (prog:=X.prog) (w:=X.w) I.kIn O hk;refine rE (T5 X.prog X.w z t) hs hm ⟨.bl r.isSome,H,I.tok _,?_,q⟩;rw[PySem.W.find_K O hn]
 rfl
end
end L2
namespace L2
open PySem PySem.Spec PyProof.Rows
mutual
noncomputable def nD:D->Bool
 | .non=>v_
 | .str _=>v_
 | .int _=>v_
 | .tup xs=>nL xs
 |_=>UT
noncomputable def nL:oj D->Bool
 | []=>v_
 |x::r=>nD x&&nL r
end
def C6:∀{xs:oj D}{j:Nat}{x:D},nL xs=v_->xs[j]? =u_ x->nD x=v_
 | [],_,_,_,e=>by simp at e
 |y::r,0,x,h,e=>by
  have h':nD y=v_/\nL r=true:=by simpa [nL] using h
  have:y=x:=by simpa using e
  exact this▸h'.1
 |y::r,j+1,x,h,e=>by
  have h':nD y=v_/\nL r=true:=by simpa [nL] using h
  exact C6 h'.2 (by simpa using e)
mutual
noncomputable def eqN:D->D->Bool
 | .non,.non=>v_
 | .str a,.str b=>a==b
 | .int a,.int b=>a==b
 | .tup xs,.tup ys=>eqNL xs ys
 |_,_=>UT
noncomputable def eqNL:oj D->oj D->Bool
 | [],[]=>v_
 |x::r,y::q=>eqN x y&&eqNL r q
 |_,_=>UT
end
mutual
theorem DL:∀{d e:D},nD d=v_->(eqN d e=v_↔d=e)
 | .non,e,_=>by cases e<;>simp[eqN]
 | .str a,e,_=>by cases e<;>simp[eqN]
 | .int a,e,_=>by cases e<;>simp[eqN]
 | .tup xs,.tup ys,h=>by
  have:=eqNL_iff (xs:=xs) (ys:=ys) (by simpa [nD] using h)
  simp![eqN,this,D.tup.injEq]
 | .tup xs,.non,_=>by simp[eqN]
 | .tup xs,.bl _,_=>by simp[eqN]
 | .tup xs,.int _,_=>by simp[eqN]
 | .tup xs,.str _,_=>by simp[eqN]
 | .tup xs,.lst,_=>by simp[eqN]
 | .tup xs,.dct,_=>by simp[eqN]
 | .bl _,_,h=>by simp[nD] at h
 | .lst,_,h=>by simp[nD] at h
 | .dct,_,h=>by simp[nD] at h
theorem eqNL_iff:∀{xs ys:oj D},nL xs=v_->(eqNL xs ys=v_↔xs=ys)
 | [],[],_=>by simp[eqNL]
 | [],_::_,_=>by simp[eqNL]
 |_::_,[],_=>by simp[eqNL]
 |x::r,y::q,h=>by
  have h':nD x=v_/\nL r=true:=by simpa [nL] using h
  simp![eqNL,uC,DL h'.1,eqNL_iff h'.2,UF]
end
mutual
theorem Is.detN {H:Hp}:∀{d e:D}{v:V},nD d=v_->nD e=v_->Is H d v->Is H e v->d=e
 | .non,e,v,_,he,h1,h2=>by
  cases(show v= .non from h1)
  cases e with
  |non=>rfl
  |str b=>obtain⟨q,_⟩:=(show V.non=V.str b/\_ from h2);cases q
  |int b=>cases(show V.non=V.int b from h2)
  |tup ys=>erw[h2,p,us,q,_];cases q
  |_=>simp[nD] at he
 | .str a,e,v,_,he,h1,h2=>by
  obtain⟨rfl,_⟩:=(show v= .str a/\_ from h1)
  cases e with
  |non=>cases(show V.str a=V.non from h2)
  |str b=>obtain⟨q,_⟩:=(show V.str a=V.str b/\_ from h2);cases q;rfl
  |int b=>cases(show V.str a=V.int b from h2)
  |tup ys=>erw[h2,p,us,q,_];cases q
  |_=>simp[nD] at he
 | .int a,e,v,_,he,h1,h2=>by
  cases(show v= .int a from h1)
  cases e with
  |non=>cases(show V.int a=V.non from h2)
  |str b=>obtain⟨q,_⟩:=(show V.int a=V.str b/\_ from h2);cases q
  |int b=>cases(show V.int a=V.int b from h2);rfl
  |tup ys=>erw[h2,p,us,q,_];cases q
  |_=>simp[nD] at he
 | .tup xs,e,v,hd,he,h1,h2=>by
  erw[id h1,p,vs,rfl,Z,hl];cases e with
  |non=>cases(show V.ref p=V.non from h2)
  |str b=>obtain⟨q,_⟩:=(show V.ref p=V.str b/\_ from h2);cases q
  |int b=>cases(show V.ref p=V.int b from h2)
  |tup ys=>
   erw[h2,p',us,q,O,U];cases q;rw[Z] at O;cases O;rw[IsL.detN (by simpa [nD] using hd) (by simpa [nD] using he) hl U]
  |_=>simp[nD] at he
 | .bl _,_,_,hd,_,_,_=>by simp[nD] at hd
 | .lst,_,_,hd,_,_,_=>by simp[nD] at hd
 | .dct,_,_,hd,_,_,_=>by simp[nD] at hd
theorem IsL.detN {H:Hp}:∀{xs ys:oj D}{vs:oj V},nL xs=v_->nL ys=v_->IsL H xs vs->IsL H ys vs->xs=ys
 | [],[],_,_,_,_,_=>rfl
 | [],_::_,_,_,_,h1,h2=>by
  cases(show _= [] from h1)
  erw[h2,v,r,q,_];cases q
 |_::_,[],_,_,_,h1,h2=>by
  cases(show _= [] from h2)
  erw[h1,v,r,q,_];cases q
 |x::xs,y::ys,_,hd,he,h1,h2=>by
  erw[h1,v,r,rfl,Z,a2];erw[h2,v',r',q,b1,b2];cases q;have O:nD x=v_/\nL xs=true:=by simpa [nL] using hd
  have U:nD y=v_/\nL ys=true:=by simpa [nL] using he
  rw[Is.detN O.1 U.1 Z b1,IsL.detN O.2 U.2 a2 b2]
end
def kO:∀(xs ys:oj D),eqNL xs ys=((V1 (min ↑xs ↑ys)).all (λj=>eqN (xs.getD j .non) (ys.getD j .non))&&↑xs==↑ys)
 | [],[]=>by simp[eqNL]
 | [],_::_=>by simp[eqNL]
 |_::_,[]=>by simp[eqNL]
 |x::r,y::q=>by
  have O:=kO r q;rw[um,um,show min (↑r+1) (↑q+1)=min ↑r ↑q+1 by omega,T7,vq,Uw]
  have e:(V1 (min ↑r ↑q)).all ((λj=>eqN ((x::r).getD j .non) ((y::q).getD j .non))∘tX)=(V1 (min ↑r ↑q)).all λj=>eqN (r.getD j .non) (q.getD j .non):=by congr 1
  rw[e];have U:(↑r+1==↑q+1)=(↑r==↑q):=by rw[vH];simp
  rw[U,FH,<-O]
  rfl
section
variable {X:Cx}{oq:oj (o3×Obj)}{σ:St}{H:Hp}{s:o7}
variable {e:D}{A:oh}
def oK (I:#[I]){u:V}{b:o6}(U:nD e=v_)(h2:Is H e u)(O:ik u b)(Z:A.units<V3):Va A s .none b (eqN .non e):=by
 cases e with
 |non=>
  cases(show u= .non from h2)
  cases O;exact GZ _
 |str y=>
  obtain⟨rfl,_⟩:=(show u= .str y/\_ from h2)
  erw[O,t2,rfl];exact Tq _ _
 |int y=>
  cases(show u= .int y from h2)
  erw[O,t2,rfl];exact TU _ _
 |tup ys=>
  erw[id h2,p,us,rfl,hp,hl];cases O;erw[I.tuple (.inl (.of hp)),its,_,q,_];exact Rs q Z
 |_=>simp[nD] at U
variable {z:Str}
def DO (I:#[I]){t:Tok}{u:V}{b:o6}(U:nD e=v_)(h2:Is H e u)(O:ik u b)(Z:A.units<V3):Va A s (.str z t) b (eqN (.str z) e):=by
 cases e with
 |non=>
  cases(show u= .non from h2)
  cases O;exact Fy _ _
 |str y=>
  obtain⟨rfl,_⟩:=(show u= .str y/\_ from h2)
  erw[O,t2,rfl];exact tj _ _ _ _
 |int y=>
  cases(show u= .int y from h2)
  erw[O,t2,rfl];exact Uy _ _ _ _
 |tup ys=>
  erw[id h2,p,us,rfl,hp,hl];cases O;erw[I.tuple (.inl (.of hp)),its,_,q,_];exact r_ _ _ q Z
 |_=>simp[nD] at U
def oN (I:#[I]){z:Int}{t:Tok}{u:V}{b:o6}(U:nD e=v_)(h2:Is H e u)(O:ik u b)(Z:A.units<V3):Va A s (.int z t) b (eqN (.int z) e):=by
 cases e with
 |non=>
  cases(show u= .non from h2)
  cases O;exact Re _ _
 |str y=>
  obtain⟨rfl,_⟩:=(show u= .str y/\_ from h2)
  erw[O,t2,rfl];exact Ux _ _ _ _
 |int y=>
  cases(show u= .int y from h2)
  erw[O,t2,rfl];exact HV _ _ _ _
 |tup ys=>
  erw[id h2,p,us,rfl,hp,hl];cases O;erw[I.tuple (.inl (.of hp)),its,_,q,_];exact FE _ _ q Z
 |_=>simp[nD] at U
def Cp {xs ys:oj D}{vs us:oj V}{its its':oj o6}{A:oh}(hd:nL xs=v_)(he:nL ys=v_)(hl:IsL H xs vs)(O:IsL H ys us)(rv:im vs its)(U:im us its')
  (ih:∀x∈xs,∀(e:D) (v u:V) (a b:o6),nD x=v_->nD e=v_->Is H x v->Is H e u->ik v a->ik u b->Va A s a b (eqN x e)):
  ∀j (a1:j<its.toArray.size) (a2:j<its'.toArray.size),Va A s its.toArray[j] its'.toArray[j] (eqN (xs.getD j .non) (ys.getD j .non)):=λj a1 a2=>by
 have l1:↑its=↑xs:=by rw[<-↑rv,↑hl]
 have l2:↑its'=↑ys:=by rw[<-↑U,↑O]
 have Z:j<↑xs:=by rw[<-l1];simpa using a1
 have j2:j<↑ys:=by rw[<-l2];simpa using a2
 obtain⟨v1,e1,i1⟩:=hl.get (i:=j) (d:=xs[j]) (by simp[Z])
 obtain⟨v2,e2,i2⟩:=O.get (i:=j) (d:=ys[j]) (by simp[j2])
 erw[rv.get e1,b1,f1,g1];erw[U.get e2,b2,f2,g2];have k1:its.toArray[j]=b1:=by
  have:=f1;rw[uq (by rwa[l1])] at this
  simpa using this
 have k2:its'.toArray[j]=b2:=by
  have:=f2;rw[uq (by rwa[l2])] at this
  simpa using this
 have d1:xs.getD j .non=xs[j]:=by simp[Vx,Z]
 have d2:ys.getD j .non=ys[j]:=by simp[Vx,j2]
 rw[k1,k2,d1,d2];exact ih _ (uY Z) _ _ _ _ _ (C6 (j:=j) hd (by simp[Z])) (C6 (j:=j) he (by simp[j2])) i1 i2 g1 g2
def DN (I:#[I]){xs:oj D}{e:D}{v u:V}{a b:o6}{A:oh}(hd:nD (.tup xs)=v_)(he:nD e=v_)(h1:Is H (.tup xs) v)(h2:Is H e u)(r1:ik v a)(O:ik u b)(hu:A.units<V3)
  (ih:∀x∈xs,∀(e:D) (v u:V) (a b:o6),nD x=v_->nD e=v_->Is H x v->Is H e u->ik v a->ik u b->Va A.in1 s a b (eqN x e)):Va A s a b (eqN (.tup xs) e):=by
 erw[id h1,p,vs,rfl,hp,hl];cases r1;erw[I.tuple (.inl (.of hp)),its,rv,q,_];cases e with
 |non=>
  cases(show u= .non from h2)
  cases O;exact RL q hu
 |str y=>
  obtain⟨rfl,_⟩:=(show u= .str y/\_ from h2)
  erw[O,t2,rfl];exact Tn _ _ q hu
 |int y=>
  cases(show u= .int y from h2)
  erw[O,t2,rfl];exact rW _ _ q hu
 |tup ys=>
  by_cases hv:V.ref p=u
  ·have:=Is.detN (e:= .tup ys) hd he h1 (hv▸h2);subst hv;cases O;rw[<-this,(DL hd).mpr rfl];exact GZ _
  ·erw[id h2,p',us,rfl,aa,U];cases O;erw[I.tuple (.inl (.of aa)),its',Z,q',_];have l1:↑its=↑xs:=by rw[<-↑rv,↑hl]
   have l2:↑its'=↑ys:=by rw[<-↑Z,↑U]
   have ac:=UK (e:=λj=>eqN (xs.getD j .non) (ys.getD j .non)) q q' hu (Cp (by simpa [nD] using hd) (by simpa [nD] using he) hl U rv Z ih)
   have e1:eqN (.tup xs) (.tup ys)=((V1 (min its.toArray.size its'.toArray.size)).all (λj=>eqN (xs.getD j .non) (ys.getD j .non))&&its.toArray.size==its'.toArray.size):=by
    rw[uw,uw,l1,l2,<-kO];simp![eqN]
   rw[e1];exact TH (λz=>hv (by rw[z])) ac
 |_=>simp[nD] at he
def PJ (I:#[I]):∀(n:Nat) (d e:D) (v u:V) (a b:o6) (A:oh),dp d<=n->nD d=v_->nD e=v_->Is H d v->Is H e u->ik v a->ik u b->A.units+n<V3->Va A s a b (eqN d e):=by
 intro n
 induction n with
 |zero=>
  intro d e v u a b A hn hd U h1 h2 Z r2 hu;cases d with
  |non=>
   cases(show v= .non from h1)
   cases Z;exact oK I U h2 r2 hu
  |int z=>
   cases(show v= .int z from h1)
   erw[Z,t,rfl];exact oN I U h2 r2 hu
  |str z=>simp[dp] at hn
  |tup xs=>simp[dp] at hn
  |_=>simp[nD] at hd
 |succ n ih=>
  intro d e v u a b A hn hd U h1 h2 Z r2 hu;have O:A.units<cLine:=Uc (UP _ _) hu;cases d with
  |non=>
   cases(show v= .non from h1)
   cases Z;exact oK I U h2 r2 O
  |int z=>
   cases(show v= .int z from h1)
   erw[Z,t,rfl];exact oN I U h2 r2 O
  |str z=>
   obtain⟨rfl,_⟩:=(show v= .str z/\_ from h1)
   erw[Z,t,rfl];exact DO I U h2 r2 O
  |tup xs=>
   have hm:dpL xs<=n:=by
    have:dp (.tup xs)=1+dpL xs:=by simp![dp]
    omega
   exact DN I hd U h1 h2 Z r2 O λx hx e v u a b k1 k2 k3 k4 k5 k6=>ih x e v u a b A.in1 ((wm xs).mp hm x hx) k1 k2 k3 k4 k5 k6 (by rw[uT];omega)
  |_=>simp[nD] at hd
inductive SY (g:Bool->Bool)(x:V)(y:V)(H:Hp)(Q:VK):Prop
 |mk (ds es:List D)(_:Is H (.tup ds) x)(_:Is H (.tup es) y)(_:nL ds=v_)(_:nL es=v_)(_:dpL ds<=60)(_:Q (.bl (g (eqNL ds es))) H)
variable {ds:oj D}{y:V}{u:o6}
def Abe (I:#[I]){es:oj D}{x:V}{v:o6}(h1:Is H (.tup ds) x)(h2:Is H (.tup es) y)(hn:nL ds=v_)(Z:nL es=v_)(hd:dpL ds<=60)(rx:ik x v)(ry:ik y u)(hu:X.A.units+64<V3):
  T_ X.A s v u (eqNL ds es)/\Fa X.A s v u (!eqNL ds es):=by
 erw[id h1,p,vs,rfl,hp,hl];erw[id h2,p',us,rfl,aa,O];cases rx;cases ry;erw[I.tuple (.inl (.of hp)),its,rv,q,_];erw[I.tuple (.inl (.of aa)),its',U,q',_];have l1:↑its=↑ds:=by rw[<-↑rv,↑hl]
 have l2:↑its'=↑es:=by rw[<-↑U,↑O]
 have pe:=Cp (A:=X.A.in1) hn Z hl O rv U λx hx e v u a b k1 k2 k3 k4 k5 k6=>PJ I 60 x e v u a b X.A.in1 ((wm ds).mp hd x hx) k1 k2 k3 k4 k5 k6 (by rw[uT];omega)
 have e1:=UK (e:=λj=>eqN (ds.getD j .non) (es.getD j .non)) q q' () pe
 have e2:=TQ (e:=λj=>eqN (ds.getD j .non) (es.getD j .non)) q q' () pe
 rw[uw,uw,l1,l2,<-kO] at e1 e2;exact[e1:e2]
def Ml (U:X.A.units+64<V3):OpR X (V4 .NotEq) (SY not):=by
 exists 2,x,y,v,u,Q,I,Z,ry,h;erw[h,ds,es,h1,h2,hn,O,hd,q];exact(Abe I h1 h2 hn O hd Z ry U).2 X.prog X.w X.xe _ ⟨.bl _,H,I,1,q⟩
end
structure FF (K:o0)(mg:Str->om o6)(x:Str)(st:Stmt)(ps:oj Str)(f:o3)(fd:UW):Prop where
 F:Fun K x x st f fd
 b:zi K fd ps []
 m:mg x=u_ (.ref f)
structure FM (K:o0)(C:o3)(x q:Str)(st:Stmt)(ps:oj Str)(f:o3)(fd:UW):Prop where
 F:Fun K x q st f fd
 b:zi K fd ps []
 h:Sm K C x f
nonrec def FZ (K:o0)(x q:Str)(st:Stmt)(f:o3):Prop:=∃(oc kV dc pm cd ct:o6) (od an:om o3) (sl:Array (om o6)),K.lookup f=u_ ⟨oc,od,.func (PySem.W.fnOf x q (YA st) (yV st) (qi st) .none kV dc pm an cd ct),sl⟩/\PySem.W.codeIn K cd q=v_/\PySem.W.keepIn K (.ref f)=v_
nonrec def FZg (K:o0)(x:Str)(st:Stmt)(f:o3):Prop:=PySem.W.nsIn K Vc x=u_ (u_ (.ref f))/\FZ K x x st f
nonrec def FZm (K:o0)(C:o3)(x q:Str)(st:Stmt)(f:o3):Prop:=PySem.W.findIn K (.ref C) x=u_ (u_ (.ref f))/\PySem.W.isFn K (.ref f)=v_/\FZ K x q st f
nonrec def BOk (x q:Str)(st:Stmt)(ps:oj Str):Prop:=∀(kV doc pm:o6) (an:om o3) (cdv ct:o6) (us:oj o6),↑us=↑ps->VM (PySem.W.fnOf x q (YA st) (yV st) (qi st) .none kV doc pm an cdv ct) [us:[]]=pure (ps.zip us)
variable {K:o0}{h:o8}{mg:Str->om o6}{x:Str}{st:Stmt}{f:o3}
def Qb (X:K.In h)(G:h.Ns Vc mg)(z:FZg K x st f)(ps:oj Str)(O:BOk x x st ps):∃fd,FF K mg x st ps f fd:=by
 erw[z,a,oc,kV,dc,pm,U,ct,od,an,sl,l,c,k];have F:=KP (st:=st) l c k;exact⟨_,F,F.binds O,uP X G a⟩
variable {C:o3}
def yW {q:Str}(z:FZm K C x q st f)(ps:oj Str)(O:BOk x q st ps):∃fd,FM K C x q st ps f fd:=by
 erw[z,a,i,oc,kV,dc,pm,U,ct,od,an,sl,l,c,k];have F:=KP (st:=st) l c k;exact⟨_,F,F.binds O,[a:i:k]⟩
def FF.law {ps:oj Str}{fd:UW}(T:FF K mg x st ps f fd){y:Str}(h:∀(kV doc pm:o6) (an:om o3) (cdv ct u:o6),VM (PySem.W.fnOf x x (YA st) (yV st) (qi st) .none kV doc pm an cdv ct) [[u]:[]]=pure [(y,u)])(s:o7)(u:o6):gX s fd [[u]:[]] [(y,u)]:=by
 erw[T.F.ex,oc,od,kV,doc,pm,an,cdv,ct,osl,rfl,lk,O];exact .of_eq (h kV doc pm an cdv ct u)
nonrec def txt? (u:o6):om Str:=match u with
 | .str z _=>u_ z
 |_=>US
nonrec def TZ (K:o0)(q:o3)(l:oj Str):Prop:=∃(d:om o3) (i:Array o6) (n:Nat) (sl:Array (om o6)),K.lookup q=u_ ⟨.type "tuple",d,.seq i n,sl⟩/\i.toList.map txt? =l.map u_
def BM:∀{l:oj Str}{us:oj o6},us.map txt? =l.map u_->im (l.map V.str) us
 | [],[],_=> .nil
 |z::l,u::us,h=>by
  rw[uB,uB] at h;injection h with h1 h2
  cases u with
  |str y t=>
   have:y=z:=uL h1;subst this;exact .cons [t:1] (BM h2)
  |_=>cases h1
 | [],_::_,h=>by simp at h
 |_::_,[],h=>by simp at h
variable {H:Hp}{q:o3}{l:oj Str}
def TZ.sq (h:TZ K q l)(Z:↑l<=100):SqT K H q (l.map V.str):=by
 erw[h,d,its,n,sl,U,e];have O:its.size=↑l:=by rw[<-vk];simpa using A9 VD e
 exact .inr ⟨_,its,n,U,1,1,by rw[O];exact UN (Xo ()),BM e⟩
nonrec def TZn (K:o0)(a:o3)(x:Str)(l:oj Str):Prop:=∃q,PySem.W.nsIn K a x=u_ (u_ (.ref q))/\TZ K q l
end L2
namespace L2
open PySem PyProof.Rows
variable {σ:St}{H:Hp}
def qD {t u:TS}{D:mP}(h:∀N:St->Hp->Prop,(∀O H',u D O H'->N O H')->t {D with nx:=N} σ H):mQ t u D σ H:=h (u D) λ_ _ h=>h
def ZP {xs:oj V}{us:oj o6}(r:im xs us):∀is:oj Nat,im (is.filterMap (xs[·]?)) (is.filterMap (us[·]?))
 | []=> .nil
 |i::is=>by
  rw[vO,vO];have U:=↑r;cases e:xs[i]? with
  |none=>
   have:us[i]? =none:=Rb (by have:=List.getElem?_eq_none_iff.mp e;omega)
   rw[this];exact ZP r is
  |some x=>
   erw[r.get e,u,O,g];rw[O];exact .cons g (ZP r is)
end L2
namespace L2
open PySem PySem.Spec PyProof.Rows
section
variable {x q:Str}{st:Stmt}{a b c d:Str}
def bo1 (h:∀(kV doc pm:o6) (an:om o3) (cdv ct u:o6),VM (PySem.W.fnOf x q (YA st) (yV st) (qi st) .none kV doc pm an cdv ct) [[u]:[]]=pure [(a,u)]):BOk x q st [a]:=by
 intro k1 k2 k3 U k5 Z us O;rcases us with _|⟨u,_|⟨_,_⟩⟩
 ·cases O
 ·exact h k1 k2 k3 U k5 Z u
 ·cases O
def bo2 (h:∀(kV doc pm:o6) (an:om o3) (cdv ct u v:o6),VM (PySem.W.fnOf x q (YA st) (yV st) (qi st) .none kV doc pm an cdv ct) [[u,v]:[]]=pure [(a,u),(b,v)]):BOk x q st [a,b]:=by
 intro k1 k2 k3 U k5 Z us O;rcases us with _|⟨u,_|⟨v,_|⟨_,_⟩⟩⟩
 ·cases O
 ·cases O
 ·exact h k1 k2 k3 U k5 Z u v
 ·cases O
def bo3 (h:∀(kV doc pm:o6) (an:om o3) (cdv ct u v w:o6),VM (PySem.W.fnOf x q (YA st) (yV st) (qi st) .none kV doc pm an cdv ct) [[u,v,w]:[]]=pure [(a,u),(b,v),(c,w)]):BOk x q st [a,b,c]:=by
 intro k1 k2 k3 U k5 Z us O;rcases us with _|⟨u,_|⟨v,_|⟨w,_|⟨_,_⟩⟩⟩⟩
 ·cases O
 ·cases O
 ·cases O
 ·exact h k1 k2 k3 U k5 Z u v w
 ·cases O
def bo4 (h:∀(kV doc pm:o6) (an:om o3) (cdv ct u v w z:o6),VM (PySem.W.fnOf x q (YA st) (yV st) (qi st) .none kV doc pm an cdv ct) [[u,v,w,z]:[]]=pure [(a,u),(b,v),(c,w),(d,z)]):BOk x q st [a,b,c,d]:=by
 intro k1 k2 k3 U k5 Z us O;rcases us with _|⟨u,_|⟨v,_|⟨w,_|⟨z,_|⟨_,_⟩⟩⟩⟩⟩
 ·cases O
 ·cases O
 ·cases O
 ·cases O
 ·exact h k1 k2 k3 U k5 Z u v w z
 ·cases O
end
section
variable {X:Cx}
inductive RV (K:PySem.W.Frag)(Q:VK)(x:V)(y:V)(H3:Hp):Prop
 |mk (k:Int)(_:y= .int k)(_:k≠0)(a:_)(xs:_)(_:x= .ref a)(_:SqL K H3 a xs)(_:∀ys p,↑ys<=↑xs->(∀y∈ys,y∈xs)->H3 p=US->Q (.ref p) (upd H3 p (.lst ys)))
nonrec def SD (K:o0)(te:TE)(tl:TO)(tf:TE):TE:=λσ H Q=>te σ H λx H1=>tl σ H1 λ_ H2=>tf σ H2 λy H3=>RV K Q x y H3
def Cn {e f:Expr}{te tf:TE}{lo:om Expr}{tl:TO}{pos p2}(he:PE X e te)(hl:PO X lo tl)(hf:PE X f tf)(U:Gz (.Slice lo US (u_ f) p2) UT=λv u=>GM [v,u] (Vm v u)):PE X (.Subscript e (.Slice lo US (u_ f) p2) pos) (SD X.K te tl tf):=by
 exists 2,Q,I,h;refine G_ (thn (he oq s σ H _ I h) λv s1 zq=>?_);erw[zq,x,H1,I1,r1,q1];refine TY (thn (hl oq s1 σ H1 _ I1 q1) λvl s2 zq=>?_);erw[zq,lv,H2,I2,pl,q2];rw[tI];refine uF ?_;rw[Tl];refine thn (hf oq s2 σ H2 _ I2 q2) λu O h3=>?_;erw[h3,y,H3,I3,r3,k,rfl,hk,a,xs,rfl,hH,q];erw[r3,tk,rfl];cases r1;have I4:Inv X oq σ H3 {O with heap:=O.heap.push {cls:= .type "slice",data:= .fields #[vl,.none,.int k tk]}}:=I3.kept (t':=O.toks) λb ob q=>ug _ q
 erw[I4.list hH,its,r,Z,hz];have aa:its.toArray.size=↑xs:=by rw[uw];exact r.length.symm
 show UU #[X,X] X.A (GH e (.Slice lo US (u_ f) p2) (.ref a) (.ref #[0,O])) (EP X oq σ Q) X.xe {O with heap:=O.heap.push {cls:= .type "slice",data:= .fields #[vl,.none,.int k tk]}}
 refine GG (ops:= [.ref a,.ref #[0,O]]) Z.isList.typeIs slot_list_getitem.lookup ?_ (by rw[U])
 refine rJ (st:=u_ k) Z.isList (TJ ..) pl .none (.int k tk) (by simpa using hk) ?_ (by rwa[aa])
 have hsz:=slicePick_size_le its.toArray lv US (u_ k);unfold tO at hsz⊢;generalize sliceRange (Vz lv US (u_ k) its.toArray.size).1 (Vz lv US (u_ k) its.toArray.size).2.1 (Vz lv US (u_ k) its.toArray.size).2.2=is at hsz⊢;have ep:is.filterMap (its.toArray[·]?)=is.filterMap (its[·]?):=by simp
 rw[ep] at hsz⊢;have vp:=ZP r is;have ac:(is.filterMap (xs[·]?)).length<=↑xs:=by
  rw[↑vp];rwa[uw,uw,<-↑r] at hsz
 exists .ref _,_,I4.laid (t':=O.toks) (o:= .lst (is.filterMap (xs[·]?))) (λb ob q=>ug _ q) (uj _) ⟨uQ ac hz,_,(0),vp,uJ _ rfl⟩,1,q _ _ ac (λy hy=>?_) (I4.hok.fresh (uj _));erw[List.mem_filterMap.mp hy,i,_,hi];exact vi hi
end
end L2
namespace L2
open PySem PyProof.Rows
nonrec def cl {α β:Type}(t:α->β->TS)(a:α)(b:β):TS:=t a b
section
variable {α β:Type}{t u:α->β->TS}{c:α->β->TT}{wi:α->β->TI}{g:α->β->TG}{a:α}{b:β}{D:mP}{σ:St}{H:Hp}
def cl_i (h:let S:St:=σ;let D1:mP:=D;cl t a b D1 S H):t a b D σ H:=h
def seq_oC (h:let S:St:=σ;let D1:mP:=D;∀N:St->Hp->Prop,(∀O H',cl u a b D1 O H'->N O H')->let E:mP:={D1 with nx:=N};cl t a b E S H):cl (λx y=>mQ (t x y) (u x y)) a b D σ H:=h (u a b D) λ_ _ h=>h
def seq_0 (h:let S:St:=σ;let D1:mP:=D;let E:mP:={D1 with nx:=cl u a b D1};cl t a b E S H):cl (λx y=>mQ (t x y) (u x y)) a b D σ H:=h
def if_C (h:let S:St:=σ;let D1:mP:=D;c a b S H λk H1=>if k=v_ then cl t a b D1 S H1 else cl u a b D1 S H1):cl (λx y=>AaI (c x y) (t x y) (u x y)) a b D σ H:=h
def while_C (h:let S:St:=σ;let D1:mP:=D;∃W:Nat->St->Hp->Prop,(∃m,W m S H)/\∀m σ H,W m σ H->
 c a b σ H λk H1=>if k=v_ then∃N:St->Hp->Prop,(∀O H',N O H'->∃U,U<m/\W U O H')/\cl t a b {D1 with nx:=N,ct:=N,bk:=D1.nx} σ H1 else D1.nx σ H1):cl (λx y=>IX (c x y) (t x y)) a b D σ H:=h
def for_C (h:let S:St:=σ;let D1:mP:=D;wi a b S H λJ H1=>∃W:Nat->Nat->St->Hp->Prop,(∃m,W 0 m S H1)/\∀i m σ H,W i m σ H->
 (J.stop i H/\D1.nx σ H)∨(J.go i H/\∃N:St->Hp->Prop,(∀O H',N O H'->∃U,U<m/\W (i+1) U O H')/\∀x H',J.yld i H x H'->g a b x σ H' λZ H2=>cl t a b {D1 with nx:=N,ct:=N,bk:=D1.nx} Z H2)):cl (λx y=>AaJ (wi x y) (g x y) (t x y)) a b D σ H:=h
end
end L2
namespace L2
open PySem PySem.Spec PySem.W PyProof.Rows
variable {v:V}{σ:St}{H:Hp}
def gN_ {i:Nat}{Q:St->Hp->Prop}(h:Q (σ.set i (u_ v)) H):ji i v σ H Q:=h
end L2
namespace K35
open PySem L2 PyProof.Rows
inductive A5 (p0 p1 p2 p3 p4:Prop):Prop
 |mk (_:p0)(_:p1)(_:p2)(_:p3)(_:p4)
inductive E3 {t0 t1 t2:Type}(p:t0->t1->t2->Prop):Prop
 |mk (x0:t0)(x1:t1)(x2:t2)(h:p x0 x1 x2)
open Builtin.Int (intBits)
nonrec def top (i:Nat):Stmt:=PySem.Challenge.pw_askwright_k35_ways_of_things.main.body.getD i (.Pass ⟨(0),(0),(0),(0)⟩)
noncomputable abbrev wc:Stmt:=top 16
noncomputable abbrev XA:Stmt:=top 17
noncomputable abbrev ZN:Stmt:=top 18
noncomputable abbrev Z9:Stmt:=top 20
noncomputable abbrev yQ:Stmt:=top 21
noncomputable abbrev xw:Stmt:=top 22
noncomputable abbrev ZJ:Stmt:=top 28
noncomputable abbrev xL:Stmt:=top 29
noncomputable abbrev Zm:Stmt:=top 30
noncomputable abbrev Je:Stmt:=top 31
noncomputable abbrev xk:Stmt:=top 32
noncomputable abbrev ze:Stmt:=top 33
noncomputable abbrev ZM:Stmt:=top 34
noncomputable abbrev xm:Stmt:=top 37
noncomputable abbrev xQ:Stmt:=top 38
noncomputable abbrev xl:Stmt:=top 39
noncomputable abbrev X3:Stmt:=top 40
noncomputable abbrev X8:Stmt:=top 41
noncomputable abbrev xM:Stmt:=top 42
noncomputable abbrev Ja:Stmt:=top 43
noncomputable abbrev xu:Stmt:=top 44
noncomputable abbrev xq:Stmt:=top 45
noncomputable abbrev zc:Stmt:=top 46
noncomputable abbrev xt:Stmt:=top 47
noncomputable abbrev YJ:Stmt:=top 49
noncomputable abbrev Yd:Stmt:=top 50
noncomputable abbrev Y2:Stmt:=Qe (top 51) 0
noncomputable abbrev js:Stmt:=Qe (top 51) 1
noncomputable abbrev Ye:Stmt:=Qe (top 51) 2
noncomputable abbrev YC:Stmt:=Qe (top 51) 3
noncomputable abbrev YB:Stmt:=Qe (top 51) 6
noncomputable abbrev Q9:Stmt:=Qe (top 51) 7
noncomputable abbrev Yg:Stmt:=Qe (top 51) 8
noncomputable abbrev Y5:Stmt:=Qe (top 51) 9
noncomputable abbrev JA:Stmt:=Qe (top 53) 0
noncomputable abbrev jp:Stmt:=Qe (top 53) 1
noncomputable abbrev JF:Stmt:=Qe (top 53) 2
noncomputable abbrev Y8:Stmt:=Qe (top 53) 3
noncomputable abbrev JE:Stmt:=Qe (top 53) 4
noncomputable abbrev j3:Stmt:=Qe (top 53) 5
noncomputable abbrev yR:Stmt:=Qe (top 54) 0
noncomputable abbrev QK:Stmt:=Qe (top 54) 1
noncomputable abbrev QM:Stmt:=Qe (top 54) 2
noncomputable abbrev yD:Stmt:=Qe (top 54) 3
noncomputable abbrev yn:Stmt:=Qe (top 54) 4
noncomputable abbrev yl:Stmt:=Qe (top 54) 5
noncomputable abbrev yw:Stmt:=Qe (top 54) 6
noncomputable abbrev yH:Stmt:=Qe (top 54) 7
noncomputable abbrev QP:Stmt:=Qe (top 54) 8
noncomputable abbrev Yl:Stmt:=top 55
noncomputable abbrev Zt:Stmt:=top 56
noncomputable abbrev xJ:Stmt:=top 57
noncomputable abbrev Jr:Stmt:=top 58
noncomputable abbrev jE:Stmt:=top 59
noncomputable abbrev Jo:Stmt:=top 60
noncomputable abbrev Jc:Stmt:=top 61
noncomputable abbrev xz:Stmt:=top 63
noncomputable abbrev kK:Stmt:=top 64
noncomputable abbrev kD:Stmt:=top 65
noncomputable abbrev W2:Stmt:=top 66
noncomputable abbrev xF:Stmt:=top 69
noncomputable abbrev y7:Stmt:=Qe (top 70) 0
noncomputable abbrev jh:Stmt:=Qe (top 70) 1
noncomputable abbrev yf:Stmt:=Qe (top 70) 2
noncomputable abbrev QO:Stmt:=Qe (top 70) 3
noncomputable abbrev jv:Stmt:=top 71
noncomputable abbrev jy:Stmt:=top 73
noncomputable abbrev Zz:Stmt:=top 74
noncomputable abbrev XZ:Stmt:=top 75
noncomputable abbrev X9:Stmt:=top 76
noncomputable abbrev JM:Stmt:=top 77
noncomputable abbrev JR:Stmt:=top 78
noncomputable abbrev xS:Stmt:=top 79
noncomputable abbrev JT:Stmt:=top 80
noncomputable abbrev Jd:Stmt:=top 81
noncomputable abbrev Yv:Stmt:=top 82
noncomputable abbrev XQ:Stmt:=top 83
noncomputable abbrev jH:Stmt:=top 84
noncomputable abbrev Yj:Stmt:=top 85
noncomputable abbrev Q5:Stmt:=top 86
noncomputable abbrev xI:Stmt:=top 87
noncomputable abbrev XU:Stmt:=top 88
noncomputable abbrev xi:Stmt:=top 90
noncomputable abbrev LX:Stmt:=top 91
set_option genInjectivity false in
set_option genSizeOf false in
structure Ad where
 f_is_text:o3
 d_is_text:UW
 f_is_tree:o3
 d_is_tree:UW
 f_is_name:o3
 d_is_name:UW
 f_is_pair:o3
 d_is_pair:UW
 jf:o3
 jj:UW
 ZA:o3
 Z3:UW
 f_part_of:o3
 d_part_of:UW
 ZE:o3
 ZY:UW
 f_row_of:o3
 d_row_of:UW
 zL:o3
 zT:UW
 ZV:o3
 wE:UW
 WA:o3
 Wu:UW
 f_is_rule:o3
 d_is_rule:UW
 xx:o3
 Z6:UW
 xh:o3
 ZR:UW
 xj:o3
 ZD:UW
 XW:o3
 Ww:UW
 zm:o3
 Wl:UW
 xv:o3
 wB:UW
 Ju:o3
 zK:UW
 xp:o3
 wk:UW
 xR:o3
 ZU:UW
 XY:o3
 WW:UW
 xo:o3
 ZG:UW
 JI:o3
 Jv:UW
 jS:o3
 jK:UW
 Y3:o3
 J8:UW
 xU:o3
 Xe:UW
 jM:o3
 jP:UW
 Jk:o3
 Jt:UW
 Jn:o3
 Jg:UW
 Yn:o3
 Ym:UW
 jL:o3
 jI:UW
 J1:o3
 J4:UW
 j9:o3
 zQ:UW
 Xs:o3
 Xx:UW
 zX:o3
 zy:UW
 J5:o3
 J3:UW
 zU:o3
 zJ:UW
 zG:o3
 zO:UW
 yN:o3
 je:UW
 yC:o3
 yz:UW
 yK:o3
 yI:UW
 YX:o3
 YW:UW
 YM:o3
 YK:UW
 YE:o3
 YH:UW
 Y0:o3
 YV:UW
 YS:o3
 YU:UW
 yB:o3
 yA:UW
 jQ:o3
 jO:UW
 f_has_run:o3
 d_has_run:UW
 ZB:o3
 wb:UW
 zD:o3
 zR:UW
 XJ:o3
 Xf:UW
 zY:o3
 zW:UW
 zP:o3
 zA:UW
 wI:o3
 wu:UW
 f_way_of:o3
 d_way_of:UW
 f_way_in:o3
 d_way_in:UW
 f_way_by:o3
 d_way_by:UW
 wv:o3
 wG:UW
 Y1:o3
 xc:UW
 X1:o3
 X4:UW
 YG:o3
 Yu:UW
 Yw:o3
 YD:UW
 xY:o3
 XL:UW
 Xr:o3
 Xl:UW
 f_law_pot:o3
 d_law_pot:UW
 Wk:o3
 WR:UW
 w9:o3
 We:UW
 Ws:o3
 wY:UW
 WT:o3
 Wh:UW
 wt:o3
 ZX:UW
 Wn:o3
 WO:UW
 zE:o3
 zI:UW
 Ji:o3
 Jx:UW
 Wj:o3
 Wx:UW
 Xt:o3
 Xj:UW
 jN:o3
 jR:UW
 ja:o3
 jg:UW
 jq:o3
 jG:UW
 JU:o3
 JO:UW
 Zp:o3
 Z2:UW
 f_law:o3
 d_law:UW
 qm:o3
 qK:o3
 qo:o3
 qE:o3
structure Tx (K:o0)(mg:Str->om o6)(a:Ad):Prop where
 mr:FF K mg "is_text" wc ["value"] a.f_is_text a.d_is_text
 iV:FF K mg "is_tree" XA ["value"] a.f_is_tree a.d_is_tree
 iH:FF K mg "is_name" ZN ["value"] a.f_is_name a.d_is_name
 mT:FF K mg "is_pair" Z9 ["value"] a.f_is_pair a.d_is_pair
 ll:FF K mg "is_row_of_names" yQ ["tree"] a.jf a.jj
 mF:FF K mg "is_answer" xw ["ask","answer"] a.ZA a.Z3
 mS:FF K mg "part_of" ZJ ["kind","piece","count"] a.f_part_of a.d_part_of
 mz:FF K mg "pieces_of" xL ["line","form"] a.ZE a.ZY
 oI:FF K mg "row_of" Zm ["line","count"] a.f_row_of a.d_row_of
 lK:FF K mg "read_lines" Je ["value"] a.zL a.zT
 ld:FF K mg "rule_rows" xk ["tree"] a.ZV a.wE
 mO:FF K mg "bad_line" ze ["tree"] a.WA a.Wu
 lW:FF K mg "is_rule" ZM ["value"] a.f_is_rule a.d_is_rule
 jB:FF K mg "text_made" xm ["boxes","own","parts"] a.xx a.Z6
 lc:FF K mg "self_made" xQ ["boxes","own","parts"] a.xh a.ZR
 lp:FF K mg "copy_made" xl ["boxes","own","parts"] a.xj a.ZD
 lJ:FF K mg "row_made" X3 ["boxes","own","parts"] a.XW a.Ww
 lL:FF K mg "put_made" X8 ["boxes","own","parts"] a.zm a.Wl
 lj:FF K mg "join_made" xM ["boxes","own","parts"] a.xv a.wB
 iT:FF K mg "first_made" Ja ["boxes","own","parts"] a.Ju a.zK
 lf:FF K mg "rest_made" xu ["boxes","own","parts"] a.xp a.wk
 ky:FF K mg "size_made" xq ["boxes","own","parts"] a.xR a.ZU
 lN:FF K mg "cut_made" zc ["boxes","own","parts"] a.XY a.WW
 lm:FF K mg "glue_made" xt ["boxes","own","parts"] a.xo a.ZG
 lQ:FF K mg "is_jump_taken" YJ ["boxes","word","parts"] a.JI a.Jv
 lG:FF K mg "asked_or_fault" Yd ["word","held"] a.jS a.jK
 iZ:FM K a.qm "__init__" "Machine.__init__" Y2 ["self","rule","own"] a.Y3 a.J8
 iy:FM K a.qm "now" "Machine.now" js ["self"] a.xU a.Xe
 iJ:FM K a.qm "answer" "Machine.answer" Ye ["self","tree"] a.jM a.jP
 iD:FM K a.qm "asked" "Machine.asked" YC ["self"] a.Jk a.Jt
 iN:FM K a.qm "go_on" "Machine.go_on" YB ["self"] a.Jn a.Jg
 il:FM K a.qm "is_waiting" "Machine.is_waiting" Q9 ["self"] a.Yn a.Ym
 lH:FM K a.qm "do_row" "Machine.do_row" Yg ["self","row"] a.jL a.jI
 lT:FM K a.qm "hold" "Machine.hold" Y5 ["self","box","tree"] a.J1 a.J4
 ml:FM K a.qK "__init__" "Going.__init__" JA ["self","name","source","order"] a.j9 a.zQ
 lz:FM K a.qK "begin" "Going.begin" jp ["self","rule"] a.Xs a.Xx
 lO:FM K a.qK "look" "Going.look" JF ["self"] a.zX a.zy
 lU:FM K a.qK "wanted" "Going.wanted" Y8 ["self"] a.J5 a.J3
 iU:FM K a.qK "take" "Going.take" JE ["self","answer"] a.zU a.zJ
 mn:FM K a.qK "full" "Going.full" j3 ["self"] a.zG a.zO
 lq:FM K a.qo "__init__" "PlainOrder.__init__" yR ["self","project"] a.yN a.je
 io:FM K a.qo "begin_anew" "PlainOrder.begin_anew" QK ["self","project"] a.yC a.yz
 iG:FM K a.qo "go_through" "PlainOrder.go_through" QM ["self","name"] a.yK a.yI
 iF:FM K a.qo "enter" "PlainOrder.enter" yD ["self","name"] a.YX a.YW
 iO:FM K a.qo "settle" "PlainOrder.settle" yn ["self","going"] a.YM a.YK
 iP:FM K a.qo "runner" "PlainOrder.runner" yl ["self","rule","own"] a.YE a.YH
 iX:FM K a.qo "leave" "PlainOrder.leave" yw ["self","going"] a.Y0 a.YV
 iY:FM K a.qo "go_on" "PlainOrder.go_on" yH ["self","going"] a.YS a.YU
 iq:FM K a.qo "answer_yet" "PlainOrder.answer_yet" QP ["self","name"] a.yB a.yA
 iI:FF K mg "answer_at_once" Yl ["source"] a.jQ a.jO
 mU:FF K mg "has_run" Zt ["source"] a.f_has_run a.d_has_run
 mG:FF K mg "answer_by" xJ ["end"] a.ZB a.wb
 mj:FF K mg "check_name" Jr ["name"] a.zD a.zR
 l7:FF K mg "check_names" jE ["names"] a.XJ a.Xf
 mh:FF K mg "order_from" Jo ["project","name"] a.zY a.zW
 mf:FF K mg "order_over" Jc ["project","names"] a.zP a.zA
 my:FF K mg "runs_done" xz ["deeds"] a.wI a.wu
 oG:FF K mg "way_of" kK ["project","name"] a.f_way_of a.d_way_of
 oH:FF K mg "way_in" kD ["order","name"] a.f_way_in a.d_way_in
 mK:FF K mg "way_by" W2 ["rule","own","run"] a.f_way_by a.d_way_by
 mE:FF K mg "is_source" xF ["value"] a.wv a.wG
 lS:FM K a.qE "__init__" "Project.__init__" y7 ["self","sources"] a.Y1 a.xc
 Az:FM K a.qE "sources" "Project.sources" jh ["self"] a.X1 a.X4
 ii:FM K a.qE "source_of" "Project.source_of" yf ["self","name"] a.YG a.Yu
 iC:FM K a.qE "looked_up" "Project.looked_up" QO ["self","ask"] a.Yw a.YD
 lY:FF K mg "longest_row" jv ["names"] a.xY a.XL
 l6:FF K mg "_law_cell_at" jy ["script","k"] a.Xr a.Xl
 lV:FF K mg "_law_pot" Zz ["cell","salt"] a.f_law_pot a.d_law_pot
 ig:FF K mg "_law_take" XZ ["pot","many"] a.Wk a.WR
 iw:FF K mg "_law_word" X9 ["pot","names"] a.w9 a.We
 mM:FF K mg "_law_line" JM ["pot","names","many","k"] a.Ws a.wY
 l8:FF K mg "_law_rule" JR ["pot","names"] a.WT a.Wh
 mB:FF K mg "_law_maker" xS ["pot","names"] a.wt a.ZX
 l9:FF K mg "_law_leaf" JT ["pot","names"] a.Wn a.WO
 mi:FF K mg "_law_source" Jd ["pot","names"] a.zE a.zI
 iM:FF K mg "_law_all_names" Yv ["script"] a.Ji a.Jx
 mL:FF K mg "_law_link" XQ ["pot","names","k"] a.Wj a.Wx
 lZ:FF K mg "_law_sources" jH ["script"] a.Xt a.Xj
 lE:FF K mg "_law_wide_names" Yj ["script"] a.jN a.jR
 lh:FF K mg "_law_drawn_names" Q5 ["script","salt","many"] a.ja a.jg
 li:FF K mg "_law_asked" xI ["project","name","way","runs"] a.jq a.jG
 md:FF K mg "_law_full" XU ["project","name","way","runs"] a.JU a.JO
 mD:FF K mg "_law_deeds" xi ["script"] a.Zp a.Z2
 Ay:FF K mg "law" LX ["script"] a.f_law a.d_law
 qt:Cls K a.qm
 M_Machine:Mk K a.qm a.Y3
 m_Machine:mg "Machine"=u_ (.ref a.qm)
 yY:QE K a.qm "rows"
 wN:QE K a.qm "rule"
 XI:QE K a.qm "own"
 Qv:QE K a.qm "boxes"
 Qi:QE K a.qm "place"
 yc:QE K a.qm "done"
 YF:QE K a.qm "given"
 qM:QE K a.qm "there"
 qR:Cls K a.qK
 M_Going:Mk K a.qK a.j9
 m_Going:mg "Going"=u_ (.ref a.qK)
 Yc:QE K a.qK "name"
 XD:QE K a.qK "order"
 yu:QE K a.qK "made_by"
 yS:QE K a.qK "rule_asks"
 qW:QE K a.qK "rule_run"
 Q2:QE K a.qK "end"
 qx:Cls K a.qo
 M_PlainOrder:Mk K a.qo a.yN
 m_PlainOrder:mg "PlainOrder"=u_ (.ref a.qo)
 qX:QE K a.qo "given_project"
 QB:QE K a.qo "stack"
 Qw:QE K a.qo "under_way"
 QX:QE K a.qo "full_runs"
 Qy:QE K a.qo "found"
 QS:Cls K a.qE
 M_Project:Mk K a.qE a.Y1
 m_Project:mg "Project"=u_ (.ref a.qE)
 Q6:QE K a.qE "by_name"
 m_MOST_SIGNS:∃t,mg "MOST_SIGNS"=u_ (.int 300 t)
 m_MOST_PARTS:∃t,mg "MOST_PARTS"=u_ (.int 40 t)
 m_MOST_SIZE:∃t,mg "MOST_SIZE"=u_ (.int 600 t)
 m_MOST_DEPTH:∃t,mg "MOST_DEPTH"=u_ (.int 12 t)
 X2:∃t,mg "MOST_NAME_SIGNS"=u_ (.int 24 t)
 m_LETTERS:∃t,mg "LETTERS"=u_ (.str "abcdefghijklmnopqrstuvwxyz" t)
 m_NAME_SIGNS:∃t,mg "NAME_SIGNS"=u_ (.str "abcdefghijklmnopqrstuvwxyz0123456789./" t)
 m_PERCENT:∃t,mg "PERCENT"=u_ (.int 37 t)
 m_MOST_LINES:∃t,mg "MOST_LINES"=u_ (.int 40 t)
 m_MOST_DONE:∃t,mg "MOST_DONE"=u_ (.int 300 t)
 m_MOST_NAMES:∃t,mg "MOST_NAMES"=u_ (.int 60 t)
 z_ord:mg "ord"=US
 yx:mg "len"=US
 qT:mg "isinstance"=US
 zn:mg "str"=US
 Q8:mg "tuple"=US
 z_all:mg "all"=US
 z_int:mg "int"=US
 jA:mg "range"=US
 z_zip:mg "zip"=US
 z_dict:mg "dict"=US
 z_sorted:mg "sorted"=US
 z_abs:mg "abs"=US
 z_min:mg "min"=US
 z_sum:mg "sum"=US
 z_max:mg "max"=US
def WN:qv ["value","sign"] ["value"] (qi wc):=by trivial
def yq:qv ["value","size","waiting","pair","part","depth"] ["value"] (qi XA):=by trivial
def Bb:qv ["value"] ["value"] (qi ZN):=by trivial
def Ba:qv ["value"] ["value"] (qi Z9):=by trivial
def XN:qv ["tree"] ["tree"] (qi yQ):=by trivial
def nB:qv ["ask","answer"] ["ask","answer"] (qi xw):=by trivial
def Wr:qv ["kind","piece","count","numbers"] ["kind","piece","count"] (qi ZJ):=by trivial
def nz:qv ["line","form"] ["line","form"] (qi xL):=by trivial
def Jq:qv ["line","count","word","form","pieces","parts"] ["line","count"] (qi Zm):=by trivial
def Yq:qv ["value","rows","line","row"] ["value"] (qi Je):=by trivial
def zw:qv ["tree","read"] ["tree"] (qi xk):=by trivial
def pB:qv ["tree"] ["tree"] (qi ze):=by trivial
def AZ:qv ["value"] ["value"] (qi ZM):=by trivial
def nj:qv ["boxes","own","parts"] ["boxes","own","parts"] (qi xm):=by trivial
def nw:qv ["boxes","own","parts"] ["boxes","own","parts"] (qi xQ):=by trivial
def nC:qv ["boxes","own","parts"] ["boxes","own","parts"] (qi xl):=by trivial
def pA:qv ["boxes","own","parts"] ["boxes","own","parts"] (qi X3):=by trivial
def Zq:qv ["boxes","own","parts","row"] ["boxes","own","parts"] (qi X8):=by trivial
def Jy:qv ["boxes","own","parts","one","other"] ["boxes","own","parts"] (qi xM):=by trivial
def Xw:qv ["boxes","own","parts","whole"] ["boxes","own","parts"] (qi Ja):=by trivial
def zt:qv ["boxes","own","parts","whole"] ["boxes","own","parts"] (qi xu):=by trivial
def nu:qv ["boxes","own","parts"] ["boxes","own","parts"] (qi xq):=by trivial
def xN:qv ["boxes","own","parts","whole","between"] ["boxes","own","parts"] (qi zc):=by trivial
def JD:qv ["boxes","own","parts","row","between"] ["boxes","own","parts"] (qi xt):=by trivial
def Zf:qv ["boxes","word","parts"] ["boxes","word","parts"] (qi YJ):=by trivial
def zj:qv ["word","held"] ["word","held"] (qi Yd):=by trivial
def Zn:qv ["self","rule","own"] ["self","rule","own"] (qi Y2):=by trivial
def wO:qv ["self"] ["self"] (qi js):=by trivial
def jd:qv ["self","tree","ask"] ["self","tree"] (qi Ye):=by trivial
def Zi:qv ["self"] ["self"] (qi YC):=by trivial
def Za:qv ["self"] ["self"] (qi YB):=by trivial
def Jf:qv ["self"] ["self"] (qi Q9):=by trivial
def yU:qv ["self","row","word","parts"] ["self","row"] (qi Yg):=by trivial
def ZW:qv ["self","box","tree"] ["self","box","tree"] (qi Y5):=by trivial
def kZ:qv ["self","name","source","order"] ["self","name","source","order"] (qi JA):=by trivial
def wR:qv ["self","rule"] ["self","rule"] (qi jp):=by trivial
def kj:qv ["self"] ["self"] (qi JF):=by trivial
def ZS:qv ["self"] ["self"] (qi Y8):=by trivial
def kX:qv ["self","answer"] ["self","answer"] (qi JE):=by trivial
def Xd:qv ["self","asks"] ["self"] (qi j3):=by trivial
def XB:qv ["self","project"] ["self","project"] (qi yR):=by trivial
def jl:qv ["self","project"] ["self","project"] (qi QK):=by trivial
def QH:qv ["self","name","top","missing"] ["self","name"] (qi QM):=by trivial
def xD:qv ["self","name"] ["self","name"] (qi yD):=by trivial
def JZ:qv ["self","going"] ["self","going"] (qi yn):=by trivial
def JW:qv ["self","rule","own"] ["self","rule","own"] (qi yl):=by trivial
def xH:qv ["self","going"] ["self","going"] (qi yw):=by trivial
def yk:qv ["self","going","ask","answer"] ["self","going"] (qi yH):=by trivial
def yo:qv ["self","name","at_once"] ["self","name"] (qi QP):=by trivial
def zh:qv ["source"] ["source"] (qi Yl):=by trivial
def Bc:qv ["source"] ["source"] (qi Zt):=by trivial
def nE:qv ["end"] ["end"] (qi xJ):=by trivial
def kT:qv ["name"] ["name"] (qi Jr):=by trivial
def J6:qv ["names","name"] ["names"] (qi jE):=by trivial
def kh:qv ["project","name"] ["project","name"] (qi Jo):=by trivial
def jF:qv ["project","names","order","name"] ["project","names"] (qi Jc):=by trivial
def ny:qv ["deeds"] ["deeds"] (qi xz):=by trivial
def Cc:qv ["project","name"] ["project","name"] (qi kK):=by trivial
def Z8:qv ["order","name","run","source"] ["order","name"] (qi kD):=by trivial
def Cd:qv ["rule","own","run"] ["rule","own","run"] (qi W2):=by trivial
def nA:qv ["value"] ["value"] (qi xF):=by trivial
def yF:qv ["self","sources","by_name","name","source"] ["self","sources"] (qi y7):=by trivial
def JV:qv ["self","name"] ["self","name"] (qi yf):=by trivial
def JY:qv ["self","ask"] ["self","ask"] (qi QO):=by trivial
def yX:qv ["names","row","name"] ["names"] (qi jv):=by trivial
def wU:qv ["script","k"] ["script","k"] (qi jy):=by trivial
def Yt:qv ["cell","salt","step","big","k"] ["cell","salt"] (qi Zz):=by trivial
def wp:qv ["pot","many","digit"] ["pot","many"] (qi XZ):=by trivial
def wH:qv ["pot","names","some"] ["pot","names"] (qi X9):=by trivial
def ym:qv ["pot","names","many","k","words","word","one","two","three","at"] ["pot","names","many","k"] (qi JM):=by trivial
def jo:qv ["pot","names","body","many","lines"] ["pot","names"] (qi JR):=by trivial
def YZ:qv ["pot","names","asked","lines"] ["pot","names"] (qi xS):=by trivial
def wq:qv ["pot","names","kind"] ["pot","names"] (qi JT):=by trivial
def Xk:qv ["pot","names","kind"] ["pot","names"] (qi Jd):=by trivial
def Yi:qv ["script","first","names"] ["script"] (qi Yv):=by trivial
def wC:qv ["pot","names","k","other"] ["pot","names","k"] (qi XQ):=by trivial
def QW:qv ["script","names","pairs","k","cell","pot"] ["script"] (qi jH):=by trivial
def jm:qv ["script","names"] ["script"] (qi Yj):=by trivial
def yy:qv ["script","salt","many","pot","names"] ["script","salt","many"] (qi Q5):=by trivial
def j7:qv ["project","name","way","runs","source","end"] ["project","name","way","runs"] (qi xI):=by trivial
def Qa:qv ["project","name","way","runs","word","rule","asked","there","running","ask","tree"] ["project","name","way","runs"] (qi XU):=by trivial
def Qx:qv ["script","pot","deeds","k","word","name","numbers","many"] ["script"] (qi xi):=by trivial
def J2:qv ["script","project","runs","name","due","rule","run","deeds","found"] ["script"] (qi LX):=by trivial
structure Ga where
 (boxes asking forms makers br bn:o3)
nonrec def RT:oj Str:= ["ask","has","names","go","like","rowed","none","say","fault"]
structure Fx (K:o0)(w:og)(mg:Str->om o6)(g:Ga)(a:Ad):Prop where
 m_BOXES:mg "BOXES"=u_ (.ref g.boxes)
 m_ASKING:mg "ASKING"=u_ (.ref g.asking)
 m_FORMS:mg "FORMS"=u_ (.ref g.forms)
 m_MAKERS:mg "MAKERS"=u_ (.ref g.makers)
 boxes:∀H,SqT K H g.boxes (BX.map V.str)
 asking:∀H,SqT K H g.asking [.str "ask",.str "has",.str "names"]
 kd:Ee K w g.forms
 forms:∀x∈FRM,∃q,PySem.W.nsIn K g.forms x.1=u_ (u_ (.ref q))/\∀H,SqT K H q (x.2.map λk=>V.str k.t)
 km:Ee K w g.makers
 k_text:PySem.W.nsIn K g.makers "text"=u_ (u_ (.ref a.xx))
 k_self:PySem.W.nsIn K g.makers "self"=u_ (u_ (.ref a.xh))
 k_copy:PySem.W.nsIn K g.makers "copy"=u_ (u_ (.ref a.xj))
 k_row:PySem.W.nsIn K g.makers "row"=u_ (u_ (.ref a.XW))
 k_put:PySem.W.nsIn K g.makers "put"=u_ (u_ (.ref a.zm))
 k_join:PySem.W.nsIn K g.makers "join"=u_ (u_ (.ref a.xv))
 k_first:PySem.W.nsIn K g.makers "first"=u_ (u_ (.ref a.Ju))
 k_rest:PySem.W.nsIn K g.makers "rest"=u_ (u_ (.ref a.xp))
 k_size:PySem.W.nsIn K g.makers "size"=u_ (u_ (.ref a.xR))
 k_cut:PySem.W.nsIn K g.makers "cut"=u_ (u_ (.ref a.XY))
 k_glue:PySem.W.nsIn K g.makers "glue"=u_ (u_ (.ref a.xo))
 k_no:∀z∈RT,PySem.W.nsIn K g.makers z=u_ US
 none_:∀z,J7 z=US->PySem.W.nsIn K g.forms z=u_ US
 m_BadRule:mg "BadRule"=u_ (.ref g.br)
 x_BadRule:PySem.W.excIn K g.br VE "ValueError.__new__"=v_
 m_BadName:mg "BadName"=u_ (.ref g.bn)
 x_BadName:PySem.W.excIn K g.bn VE "ValueError.__new__"=v_
variable {n:Nat}
def yr (h:n<=1000):n<=sizeLine:=UN (Xo h)
def sml (h:Nat.ble n 1000=v_):n<=sizeLine:=yr (Nat.le_of_ble_eq_true h)
def mI (h:n<=16000000):n<=sizeLine:=by rw[uD];omega
variable {i:Int}
def Y7 {α:Type}{xs:oj α}{c:α}(h:atI xs i=u_ c):c∈xs:=by
 unfold atI at h;erw[Option.bind_eq_some_iff.mp h,j,_,e];exact vi e
variable {z:Str}
def pQ (h:300<↑z):Qs z=false:=by
 unfold Qs;rw[uf ()]
 rfl
nonrec def Iz:D->Bool
 | .str z=>Qs z
 |_=>UT
inductive WH:Sp
 |mk (v:_)(d:_)(_:vs= [v])(_:Is H d v)(_:Q (.bl (Iz d)) H)
inductive Wm:Sp
 |mk (v:_)(d:_)(_:vs= [v])(_:Is H d v)(_:∀H',ic H H'->Q (.bl (isT d)) H')
nonrec def pr (p:D×Nat):D:= .tup [p.1,.int (p.2:Int)]
def Bk {i c:Nat}(h:z.cps[i]? =u_ c)(O:Qz c=UT):Qs z=false:=by
 unfold Qs;have hm:c∈z.cps.toList:=by
  have:z.cps.toList[i]? =u_ c:=by simpa using h
  exact vi this
 have:z.cps.toList.all Qz=false:=by
  rw[List.all_eq_false];exact⟨c,hm,by rw[O];exact uc⟩
 rw[this,HJ]
section
variable {P:o9}{w:og}{K:o0}{mg:Str->om o6}{base:o8}{a:Ad}
def WU:#[T,1,a.f_is_text,a.d_is_text,["value"],WH]:=by
 exists 9,T.mr,WN
 erw[h,v,d,rfl,hv,k];exists 3,%[@qG _ _ _ _ _ _ _ _ #[wT,#[Qo,#[Qd,#[qy,#[qV,2,rfl],T.qT,uV,#v[pv 0,#[Q1,.ty "str",T.zn,Ut]]]]],#[zB,#[qr,pK,#[qy,zx,T.yx,uK,#v[pv 0]],#[kJ,T.m_MOST_SIGNS]]]].pt %[|#[qp,jw]] qw,#[xf,#[Km,4,pv 0],#[qQ,(1),WN.nd],%[|@qG _ _ _ _ _ _ _ _ #[wT,#[qr,Ct,pv 1,qj],#[wT,#[qr,Cy,pv 1,qj],#[zB,#[qr,Qq,#[qy,IN,T.z_ord,boot_ord,#v[pv 1]],#[kJ,T.m_PERCENT]]]]].pt %[|#[qp,jw]] qw]]|#[qp,jw]]
 exists 0,v,"str",tyD d,isStr d,1,hv.ty,jx d,0;cases d with
 |str z=>
  erw[hv,rfl,hz];refine iS ?_
  exists 0,z,1,hz,_,0,1,0;refine lI (λc=>?_) (λc=>?_)
  ·have c':(300:Int)<(↑z:Int):=uu c;have e:Iz (.str z)=false:=pQ ()
   rwa[e] at k
  ·have c':¬(300:Int)<(↑z:Int):=λq=>c (ud q)
   exists 0,z,1
   let J1_:Nat->L2.St->Hp->Prop:=λi σ H'=>(∃x,σ= [u_ (.str z),x])/\H'=H/\(z.cps.toList.take i).all Qz=v_
   refine Nt J1_ [⟨0⟩:1:1] ?_ ?_
   ·rintro i c σ H' hc ⟨⟨x,rfl⟩,rfl,O⟩;have bad:Qz c=UT->Q (.bl UT) H':=λe=>by
     have e':Iz (.str z)=false:=Bk hc e;rwa[e'] at k
    exists 0,_,0,1,0;rw[show decide ((⟨#[c]⟩:Str).cps.toList<(" ":Str).cps.toList)=decide (c<32) from Pg c 32]
    refine lI (λZ=>?_) (λZ=>?_)
    ·refine i9 (bad ?_);have:=uu Z;unfold Qz;rw[uf ()]
     rfl
    ·have aa:¬c<32:=λq=>Z (ud q)
     exists 0,_,0,1,0;rw[show decide (("~":Str).cps.toList<(⟨#[c]⟩:Str).cps.toList)=decide (126<c) from O0 c 126]
     refine lI (λc2=>?_) (λc2=>?_)
     ·refine i9 (bad ?_);have:=uu c2;unfold Qz;rw[uf (p:=c<=126) (),HJ]
      rfl
     ·have ac:¬126<c:=λq=>c2 (ud q)
      exists 0,0,1,1,0;refine lI (λc3=>?_) (λc3=>?_)
      ·have U:c=37:=by
        have:=uu c3;have:=V.int.inj this;exact Rt this
       exact bad (by subst U;rfl)
      ·have U:c≠37:=λq=>c3 (ud (by rw[q];rfl))
       exists ⟨0⟩,1;rw[vD,show z.cps.toList[i]? =u_ c by simpa using hc,UE,O]
       show(v_&&(Qz c&&v_))=v_;unfold Qz;rw[ud (),ud (p:=c<=126) (),ud U]
       rfl
   ·rintro σ H' ⟨⟨x,rfl⟩,rfl,O⟩;have e:Iz (.str z)=true:=by
     show Qs z=v_;unfold Qs;rw[vj (by simp)] at O
     rw[O,ud ()]
     rfl
    rwa[e] at k
 |_=>exact i9 (i9 k)
def Ar {α β:Type}(f:α->β)(xs:oj α)(x:α):(xs++ [x]).map f=xs.map f++ [f x]:=by simp
def Nd {α:Type}(us:oj α)(x:α):(us++ [x])[↑(us++ [x])-1]? =u_ x:=by simp
def DR {α:Type}(us:oj α)(x:α):(us++ [x]).dropLast=us:=by simp
nonrec def Wt (v:V)(d:D)(H:Hp)(L:o3)(m:Nat)(σ:L2.St)(H':Hp):Prop:=
 ∃(n:Nat) (w:oj (D×Nat)) (ws:oj V) (x3 x4 x5:om V),σ= [u_ v,u_ (.int n),u_ (.ref L),x3,x4,x5]/\ic H H'/\H' L=u_ (.lst ws)/\IsL H' (w.map pr) ws/\G w n=isT d/\n<=600/\↑w<=1+40*n/\m=ndL (w.map (·.1))
def jk:#[T,2,a.f_is_tree,a.d_is_tree,["value"],Wm]:=by
 have ZL:=#[WU,T];refine T.iV.F.ok yq () (λ_ _ _ _ H vs Q E hr h=>?_)
 erw[h,v,d,rfl,hv,k];exists 3,%[#[qC,(1),yq.nd,qh],#[qC,(2),yq.nd,#[QF,#v[#[qB,#v[pv 0,qh]]]]],#[xZ,#[wh,3,pv 2,(λ_=>rfl)],%[#[qC,(3),yq.nd,#[Kn,9,vc,PySem.F.slot_list_pop,PySem.F.type_list_pop,Kw,pv 2,_,_]],#[qC,(4),yq.nd,#[qI,qF,pv 3,qh]],#[qC,2,(5),4,yq.nd,rfl,VI rfl,#[qI,qF,pv 3,qh],_,_],@qG _ _ _ _ _ _ _ _ #[s9,7,#[Qd,#[qy,#[qV,2,rfl],T.qT,uV,#v[pv 4,#[Q1,.ty "tuple",T.Q8,vE]]]],#[ki,4,#[qr,Cv,#[qy,W3,T.yx,uK,#v[pv 4]],#[kJ,T.m_MOST_PARTS]]]].pt %[#[Kk,2,(1),6,yq.nd,rfl,Gi rfl,qh,KJ,_]|#[qZ,#[jY,vc,PySem.F.slot_list_extend,PySem.F.type_list_extend,nY,pv 2,#v[#[xG,["below","depth"],[5],Ky (qi XA) ["value","size","waiting","pair","part","depth"],#[X7,pv 4],(λ_ _ _ _ _ _=>#[qQ,(0),(show Vd (["below","depth"]:oj Str) by decide+kernel)]),(λ_ _ _ _ _ _=> @yM _),(λ_ _ _ _ _ _=>#[qB,#v[pv 0,#[qY,yJ,pv 1,qh]]])]]]]] %[|#[qG,#[Qd,#[qu,ZL,hr.mono (),T.mr,#v[pv 4]]],%[|#[Kk,2,(1),6,yq.nd,rfl,Gi rfl,#[qY,yJ,qh,#[qy,W3,T.yx,uK,#v[pv 4]]],KJ,_]],%[|#[qp,jw]]]]|@qG _ _ _ _ _ _ _ _ #[wT,#[qr,pK,pv 5,#[kJ,T.m_MOST_DEPTH]],#[zB,#[qr,pK,pv 1,#[kJ,T.m_MOST_SIZE]]]].pt %[|#[qp,jw]] qw]]|#[qp,jw]]
 have no:∀{H':Hp}{w:oj (D×Nat)}{n:Nat},ic H H'->G w n=isT d->G w n=UT->Q (.bl UT) H':=λ{H' w n} sm e1 e2=>by
  have q:=k H' sm;rwa[<-e1,e2] at q
 exists 0,(sml rfl),λt1 h1=>[(sml rfl):λL hL=>?_];have s1:ic H (upd H t1 (.tup [v,.int 1])):=qf h1 _;have s2:ic H (upd (upd H t1 (.tup [v,.int 1])) L (.lst [.ref t1])):=s1.trans (qf hL _);have ak:H L=none:=s1.free hL;have i1:Is (upd H t1 (.tup [v,.int 1])) (pr (d,1)) (.ref t1):=Is.new (ds:= [d,.int 1]) ⟨v,0,hv,_,0,1,1⟩ h1
 exists Wt v d H L,⟨_,(0),[(d,1)],[.ref t1],US,US,US,1,s2,qg,IsL.one (i1.mono (qf hL _).tk),NQ d,(),by simp,1⟩
 rintro m σ H' ⟨n,w,ws,x3,x4,x5,rfl,sm,hl,hw,hG,hn,am,rfl⟩
 exists 0,!ws.isEmpty,.inl [ws:SqL.of hl:1];rcases FY w with rfl|⟨w',⟨e,j⟩,rfl⟩
 ·cases(show ws= [] from hw)
  refine iS ?_;have q:=k H' sm;rwa[<-hG,AaG hn] at q
 ·rw[rO] at*;rw[Ar] at hw;erw[hw.unsnoc,us,x,rfl,hu,hx];have ne:(!(us++ [x]).isEmpty)=true:=by simp
  rw[ne];refine i9 ⟨λσ' ao=>∃m',m'<ndL ((w'++ [(e,j)]).map (·.1))/\Wt v d H L m' σ' ao,λ_ _ h=>h,?_⟩;have hm:ndL ((w'++ [(e,j)]).map (·.1))=ndL (w'.map (·.1))+nd e:=by
   rw[Ar,XX];simp[ndL]
  have aq:↑w'<=40*n:=by
   rw[uA,vm] at am;omega
  have lu:=↑hu;rw[ue] at lu
  exists 0,.inl [1:_:SqL.of hl],L,_,x,1,1,hl,Nd us x;rw[DR];have t2:Tk H' (upd H' L (.lst us)):=Tk.updL hl;have O:ic H (upd H' L (.lst us)):=λb o z=>by rw[qk (ql z ak)];exact sm b o z
  have ae:Is (upd H' L (.lst us)) (.tup [e,.int (j:Int)]) x:=hx.mono t2;have af:IsL (upd H' L (.lst us)) (w'.map pr) us:=hu.mono t2;have U:upd H' L (.lst us) L=u_ (.lst us):=qg;generalize upd H' L (.lst us)=H2 at t2 O ae af U⊢;clear t2 hl hx hu sm
  exists 0,xy (i:=0) ae rfl λy hy=>?_
  exists 0,xy (i:=1) ae rfl λy1 ap=>?_;cases(show y1= .int (j:Int) from ap)
  show mQ _ _ _ _ H2;refine qD λN0 n0=>n0 _ _ ?_;exists 8,BB,bb;have ad:∀(n':Nat) (w2:oj (D×Nat)) (aa:oj V) (H3:Hp),ic H H3->H3 L=u_ (.lst aa)->IsL H3 (w2.map pr) aa->(j<=12->n'<=600->G w2 n'=isT d)->(12<j∨600<n'->isT d=UT)->↑w2<=1+40*n'->ndL (w2.map (·.1))<ndL ((w'++ [(e,j)]).map (·.1))->
    BB [u_ v,u_ (V.int (n':Int)),u_ (V.ref L),u_ x,u_ y,u_ (V.int (j:Int))] H3:=by
   intro n' w2 aa H3 s3 l3 i3 g3 b3 al m3;have bad:isT d=UT->Q (.bl UT) H3:=λe=>by
    have q:=k H3 s3;rwa[e] at q
   refine bb _ _ ?_
   exists 0,_,0,1,0;refine lI (λc=>i9 (bad (b3 (.inl ?_)))) (λc=>⟨0,_,0,1,0,?_⟩)
   ·have:=uu c;omega
   ·have c':¬(12:Int)<(j:Int):=λq=>c (ud q);refine lI (λc2=>bad (b3 (.inr ?_))) (λc2=>?_)
    ·have:=uu c2;omega
    ·have au:¬(600:Int)<(n':Int):=λq=>c2 (ud q);exact⟨_,m3,n',w2,aa,_,_,0,s3,l3,i3,g3 () (),(),al,1⟩
  exists 0,y,"tuple",tyD e,X6 e,1,hy.ty,xn e,0;cases e with
  |tup xs=>
   refine i9 ?_;erw[hy,a0,vs,rfl,ac,ag];have lv:=↑ag
   exists 0,_,↑vs,1,.inr [vs:SqT.of ac:1],_,0,1,0;refine lI (λc=>?_) (λc=>?_)
   ·have c':(↑vs:Int)<=40:=uu c
    exists 0,_,0,1
    exists 0,.inl [1:_:SqL.of U],0,a0,vs,1,SqT.of ac,λaw A0 ah=>?_;refine pW (tl:= [u_ (.int (j:Int))]) (λZ=> .tup [Z,.int ((j+1:Nat):Int)]) ac ag (mI ()) ah (λZ x0 H3 R _ s3 i3 r=>?_) λH3 ys s3 l3 i3=>?_
    ·exists 0,0,_,0,1,(sml rfl),λp hp=>?_;exact r _ _ (qf hp _) (Is.new (ds:= [Z,.int ((j+1:Nat):Int)]) ⟨x0,0,i3,_,0,1,1⟩ hp)
    ·have ly:=↑i3;rw[ue] at ly;have eA:A0≠L:=λz=>by rw[z,U] at ah;cases ah
     exists L,A0,us,ys,1,1,s3 _ _ U,l3,mI ()
     have t4:Tk H3 (upd H3 L (.lst (us++ys))):=Tk.updL (s3 _ _ U);have em:(w'++xs.map λZ=>(Z,j+1)).map pr=w'.map pr++xs.map λZ=> .tup [Z,.int ((j+1:Nat):Int)]:=by
      rw[uz,uU];rfl
     have ef:(w'++xs.map λZ=>(Z,j+1)).map (·.1)=w'.map (·.1)++xs:=by
      rw[uz,uU]
      congr 1
      exact Hg xs
     refine ad (n+1) (w'++xs.map λZ=>(Z,j+1)) (us++ys) _ (λb o z=>by rw[qk (ql z ak)];exact s3 b o (O b o z)) qg (by rw[em];exact((af.mono s3.tk).mono t4).append (i3.mono t4)) (λh1 h2=>?_) (λh=>?_) ?_ ?_
     ·rw[<-hG,AaE () h1]
     ·rw[<-hG];rcases h with h|h
      ·exact La h
      ·exact Se h
     ·rw[uA,ue];omega
     ·rw[ef,hm,XX];simp![nd];omega
   ·have c':¬(↑vs:Int)<=40:=λq=>c (ud q)
    exists 0,_,.tup xs,1,(show Is _ (.tup xs) (.ref a0) from⟨a0,vs,1,ac,ag⟩),0
    refine iS ?_;refine no O hG (NR ?_);simp![iL];rw[uf ()]
    rfl
  |str z=>
   refine iS ?_;erw[hy,rfl,hz]
   exists 0,_,.str z,1,[1:hz],0;cases ht:Qs z with
   |false=>
    have e1:Iz (.str z)=false:=ht;rw[e1];refine iS ?_;refine no O hG (NR ?_);simp![iL];exact ht
   |true=>
    have e1:Iz (.str z)=true:=ht;rw[e1];refine i9 ?_
    exists 0,0,_,↑z,1,[hz:1],_,0,1,_,0,1;have en:(n:Int)+(1+(↑z:Int))=((n+(1+↑z):Nat):Int):=by omega
    show BB [u_ v,u_ (V.int ((n:Int)+(1+(↑z:Int)))),u_ (V.ref L),u_ x,u_ (V.str z),u_ (V.int (j:Int))] _;rw[en];refine ad (n+(1+↑z)) w' us _ O U af (λh1 h2=>?_) (λh=>?_) () (by rw[hm];simp![nd];omega)
    ·rw[<-hG,AaF ht h1]
    ·rw[<-hG];rcases h with h|h
     ·exact La h
     ·refine Sf ?_;simp![sz];omega
  |_=>
   refine iS ?_
   exact⟨0,_,0,hy,0,iS (no O hG (NR rfl))⟩
nonrec def LET:Str:="abcdefghijklmnopqrstuvwxyz"
nonrec def NSG:Str:="abcdefghijklmnopqrstuvwxyz0123456789./"
nonrec def nm (z:Str):Bool:=decide (1<=(↑z:Int))&&decide ((↑z:Int)<=24)&&inS ⟨#[z.cps.getD 0 0]⟩ LET&&(z.cps.toList.map λc=>inS ⟨#[c]⟩ NSG).all id
nonrec def mx:D->Bool
 | .str z=>nm z
 |_=>UT
inductive LD:Sp
 |mk (v:_)(d:_)(_:vs= [v])(_:Is H d v)(_:∀H',ic H H'->Q (.bl (mx d)) H')
def AD (h:1<=↑z):atI z.cps.toList 0=u_ (z.cps.getD 0 0):=by
 have h':0<z.cps.size:=h;have q:z.cps.toList[0]? =u_ (z.cps.getD 0 0):=by simp[Array.getD,h']
 exact qU q
def P0 (z:Str):(z.cps.toList.map λc=>V.bl (inS ⟨#[c]⟩ NSG))=(z.cps.toList.map λc=>inS ⟨#[c]⟩ NSG).map V.bl:=by
 rw[uU]
 rfl
def An (h:¬(1<=(↑z:Int)/\(↑z:Int)<=24)):nm z=false:=by
 unfold nm;by_cases h1:1<=(↑z:Int)
 ·have h2:¬(↑z:Int)<=24:=λq=>h [h1:q];rw[uf h2];simp
 ·rw[uf h1];simp
def Ao (h:inS ⟨#[z.cps.getD 0 0]⟩ LET=UT):nm z=false:=by
 unfold nm;rw[h];simp
def C3 (h1:1<=(↑z:Int))(h2:(↑z:Int)<=24)(h:inS ⟨#[z.cps.getD 0 0]⟩ LET=v_):nm z=(z.cps.toList.map λc=>inS ⟨#[c]⟩ NSG).all id:=by
 unfold nm;rw[h,ud h1,ud h2];simp
def zf:#[T,1,a.f_is_name,a.d_is_name,["value"],LD]:=by
 exists 9,T.iH,Bb
 erw[h,x,d,rfl,hv,k];exists 3,%[@qG _ _ _ _ _ _ _ _ #[wT,#[Qo,#[Qd,#[qy,#[qV,2,rfl],T.qT,uV,#v[pv 0,#[Q1,.ty "str",T.zn,Ut]]]]],#[zB,#[Qo,#[wr,12,Cv,Cv,qh,#[qy,zx,T.yx,uK,#v[pv 0]],#[kJ,T.X2],_]]]].pt %[|#[qp,jw]] qw,#[qG,#[qr,8,nR,#[qI,Aw,pv 0,qh],#[OS,4,_,T.m_LETTERS,_],#[w]],%[|#[qp,jw]],qw]|#[qp,#[qy,#[Zs,1,rfl],T.z_all,tm,#v[#[xG,["sign"],[],Kz,#[Km,4,pv 0],(λ_ _ _ _ _ _=>#[qQ,(0),(show Vd (["sign"]:oj Str) by decide+kernel)]),(λ_ _ _ _ _ _=> @yM _),(λ_ _ _ _ _ _=>#[yT,Cw,pv 0,#[OS,4,_,T.m_NAME_SIGNS,_],#[w]])]]]]]
 exists 0,x,"str",tyD d,isStr d,1,hv.ty,jx d,0;cases hd:isStr d with
 |false=>
  refine i9 (i9 ?_);have:=k H (ic.refl H);have e:mx d=false:=by cases d<;>first|rfl|simp[isStr] at hd
  rwa[e] at this
 |true=>
  obtain⟨z,rfl⟩:∃z,d= .str z:=by cases d<;>simp[isStr] at hd;exact⟨0⟩
  erw[hv,rfl,U];have k:∀H',ic H H'->Q (.bl (nm z)) H':=k;refine iS ?_
  exists 0,z,1,U,_,0,1,0;have stop:nm z=UT->Q (.bl UT) H:=λe=>by
   have:=k H (ic.refl H);rwa[e] at this
  refine lI (λZ=>?_) (λZ=>?_)
  ·have aa:1<=(↑z:Int):=uu Z
   exists _,0,1,0;by_cases O:(↑z:Int)<=24
   ·rw[ud O];refine iS ?_
    exists 0,_,_,0,1,U,AD (),_,0,1,0
    cases e:inS ⟨#[z.cps.getD 0 0]⟩ LET with
    |false=>
     have e':(!(Gy ("abcdefghijklmnopqrstuvwxyz":Str) ⟨#[z.cps.getD 0 0]⟩ 0 ("abcdefghijklmnopqrstuvwxyz":Str).length 1).isEmpty)=false:=e;rw[e'];refine i9 ?_;exact stop (Ao e)
    |true=>
     have e':(!(Gy ("abcdefghijklmnopqrstuvwxyz":Str) ⟨#[z.cps.getD 0 0]⟩ 0 ("abcdefghijklmnopqrstuvwxyz":Str).length 1).isEmpty)=true:=e;rw[e'];refine iS ?_
     exists 0,z,1,λD hD=>?_;refine Pk (λc=> .bl (inS ⟨#[c]⟩ NSG)) (U) hD (λi c H' R hc sm r=>⟨0,_,0,1,r⟩) λH' sm hl=>?_
     exists D,z.cps.toList.map λc=>inS ⟨#[c]⟩ NSG,1,SqL.of (by rw[hl,P0])
     have:=k H' sm;rwa[C3 aa O e] at this
   ·rw[uf O];refine i9 ?_;exact stop (An λq=>O q.2)
  ·exists 0;refine i9 ?_;exact stop (An λq=>Z (ud q.1))
end
nonrec def NW:om Pt->D
 |none=> .non
 |some p=>p.d
inductive Lz:Sp
 |mk (n:Nat)(kd:Kd)(z:Str)(_:vs= [.str kd.t,.str z,.int (n:Int)])(_:n<=40)(_:↑z<=300)(_:∀(v:V)(H':Hp),ic H H'->Is H' (NW (y8 n kd z)) v->Q v H')
inductive BZ (K:PySem.W.Frag):Sp
 |mk (z:Str)(ks:List Kd)(q:Addr)(_:vs= [.str z,.ref q])(_:↑z<=300)(_:↑ks<=3)(_:SqT K H q (ks.map λk=>V.str k.t))(_:∀p,H p=US->Q (.ref p) (upd H p (.lst ((pcs ks z).map V.str))))
def Qp {c:Bool}{A B:Prop}(h:c=UT)(b:B):if c=v_ then A else B:=by rw[A4 (by rw[h];exact uc)];exact b
def QG {c:Bool}{A B:Prop}(h:c=v_)(a:A):if c=v_ then A else B:=by rw[A6 h];exact a
def zd (ks:oj Kd):(ks.map λk=>V.str k.t)=(ks.map Kd.t).map V.str:=by rw[uU];rfl
def El (ks:oj Kd):inV (.str "words") (ks.map λk=>V.str k.t)=decide (Kd.words∈ks):=by
 rw[zd,zk,uX,Ae];constructor
 ·rintro⟨k,O,e⟩;cases k with
  |words=>exact O
  |box=>exact A8 e ()
  |line=>exact A8 e ()
 ·intro h;exact[_:h:1]
def AB:∀x∈FRM,↑x.2<=3:=by decide+kernel
def kG (h:z∉BX):y8 n .box z=none:=by
 unfold y8;exact A4 h
def XF (h:z∈BX):y8 n .box z=u_ (.s z):=by
 unfold y8;exact A6 h
def wM (h:z∉(V1 n).map λi:Nat=>(V2 (1+(i:Int)):Str)):y8 n .line z=none:=by
 unfold y8;rw[HP,Ue];intro i hi e;exact h (Ae.mpr [i:hi:uu e])
def J9 (h:z∈(V1 n).map λi:Nat=>(V2 (1+(i:Int)):Str)):∃j:Int,1<=j/\j<=n/\z=(Pt.n j).t/\y8 n .line z=u_ (.n j):=by
 erw[Ae.mp h,i,hi,e];unfold y8;cases O:(V1 n).find? λi:Nat=>decide ((V2 (1+(i:Int)):Str)=z) with
 |none=>exact A8 (ud e) (List.find?_eq_none.mp O i hi)
 |some j=>
  have h1:=GR O;have h2:=List.mem_range.mp (U0 O);exact⟨1+(j:Int),(),(),(uu h1).symm,by show Fe _ _=_;rw[O];rfl⟩
section
variable {P:o9}{w:og}{K:o0}{mg:Str->om o6}{base:o8}{a:Ad}{g:Ga}
def My:#[C,1,a.f_part_of,a.d_part_of,["kind","piece","count"],Lz]:=by
 exists 9,T.mS,Wr
 erw[h,n,kd,z,rfl,hn,hz,k];exists 3,%[#[qG,#[qr,Qq,pv 0,qj],%[|#[qp,pv 1]],qw],#[qG,#[qr,Qq,pv 0,qj],%[|#[qp,#[Q4,#[qr,8,QT,pv 1,#[pe_gR,C.m_BOXES],#[w]],pv 1,qP]]],qw],#[EQ,2,["number"],(1),[],(3),12,Wr.nd,rfl,Gi rfl,Kz,rfl,#[nO,7,_,T.jA,#v[qh,#[qY,yJ,pv 2,qh]],_,_],(λ_ _ _ _ _ _=>#[qQ,(0),(show Vd (["number"]:oj Str) by decide+kernel)]),(λ_ _ _ _ _ _=> @yM _),(λ_ _ _ _ _ _=>#[Ql,YO,T.zn,Ut,#v[pv 0]]),_,_,_]|#[qp,#[Q4,#[qr,8,QT,pv 1,pv 3,#[w]],#[Ql,D8,T.z_int,boot_int,#v[pv 1]],qP]]]
 exists 0,1,0;cases kd with
 |words=>
  refine QG () [0:?_]
  exact k _ H (ic.refl _) [1:yr ()]
 |box=>
  refine Qp () ⟨0,1,0,?_⟩
  refine QG () ⟨0,g.boxes,0,.inr (C.boxes _),1,Xh _,0,?_⟩
  rw[A4 uc,zk];refine lI (λc=>?_) (λc=>?_)
  ·have U:z∈BX:=uu c;rw[XF U] at k;exact[0:k _ H (ic.refl _) [1:yr ()]]
  ·have U:z∉BX:=λq=>c (ud q);rw[kG U] at k;exact k _ H (ic.refl _) rfl
 |line=>
  refine Qp () ⟨0,1,0,?_⟩
  refine Qp () ?_
  exists 0,_,0,1,(1),(n:Int)+1,1,⟨(),(),(),()⟩,λL hL=>?_
  rw[show((n:Int)+1-1).toNat=n by omega]
  refine JK (lo:=1) (tl:= []) (λi ys H'=>ys=(V1 i).map (λi:Nat=>V.str (V2 (1+(i:Int))))/\ic H H') (mI ()) [1:qf hL _] ?_ ?_
  ·rintro i ys H' hi ⟨rfl,sm⟩ O Z R hR
   exists 0,0,?_,hR _ _ O [?_:?_]
   ·have h1:(1+(i:Int)).natAbs<=41:=by omega
    have h2:=UQ (1+(i:Int)).natAbs;omega
   ·rw[Hm,uz]
    rfl
   ·intro b o e;rw[qk (ql e hL)];exact sm b o e
  ·rintro ys H' ⟨rfl,sm⟩ O;have Z:(V1 n).map (λi:Nat=>V.str (V2 (1+(i:Int))))=((V1 n).map λi:Nat=>(V2 (1+(i:Int)):Str)).map V.str:=by rw[uU];rfl
   exists 5
   refine⟨0,0,L,0,.inl (SqL.of O),1,by rw[Z];exact Xh _,0,?_⟩
   rw[A4 uc,Z,zk];refine lI (λc=>?_) (λc=>?_)
   ·erw[J9 (uu c),j,j1,j2,rfl,ej];rw[ej] at k;have hj:=nW j1 ()
    exact⟨0,_,j,1,kn j1 (),uQ hj.1 (),k _ _ sm rfl⟩
   ·rw[wM λq=>c (ud q)] at k;exact k _ _ sm rfl
def CK:#[T,1,a.ZE,a.ZY,["line","form"],(BZ K)]:=by
 exists 9,T.mz,nz,Z
 erw[h,z,ks,q,rfl,hz,hk,U,k];exists 3,%[#[qG,#[qr,8,QT,qj,pv 1,#[w]],%[|#[qp,#[jY,uS,U9,Ua,C9,pv 0,#v[qj,#[qy,qN,T.yx,uK,#v[pv 1]]]]]],qw]|#[qp,#[jY,uS,U9,Ua,Aq,pv 0,#v[qj]]]]
 exists 5
 refine⟨0,q,0,.inr U,1,by rw[zd];exact Xh _,0,?_⟩
 rw[A4 uc,El];unfold pcs at k;refine lI (λc=>?_) (λc=>?_)
 ·have O:Kd.words∈ks:=uu c;rw[A6 O] at k;have h0:0<↑ks:=List.length_pos_iff.mpr λe=>by rw[e] at O;simp at O
  exact⟨0,1,0,q,0,.inr U,_,↑ks,1,by rw[ue],(),h0,(),k⟩
 ·have O:Kd.words∉ks:=λz=>c (ud z);rw[A4 O] at k;exact⟨0,1,0,1,(),k⟩
nonrec def AaQ:om Rw->D
 |none=> .non
 |some r=>rowD r
nonrec def Qj (n:Nat):D->om Rw
 | .str z=>wf n z
 |_=>US
inductive BY:Sp
 |mk (v:V)(d:D)(n:Nat)(_:vs= [v,.int (n:Int)])(_:Is H d v)(_:n<=40)(_:∀(v':V)(H':Hp),ic H H'->Is H' (AaQ (Qj n d)) v'->Q v' H')
def Bf:∀{d:D},Iz d=UT->Qj n d=US
 | .str z,h=>by
  show wf n z=US;unfold wf;exact A4 (by rw[show Qs z=UT from h];exact uc)
 | .non,_=>rfl
 | .int _,_=>rfl
 | .bl _,_=>rfl
 | .lst,_=>rfl
 | .dct,_=>rfl
 | .tup _,_=>rfl
def Lh:∀{d:D},Iz d=v_->∃z,d= .str z
 | .str z,_=>[z:1]
nonrec def jX (n:Nat)(ks:oj Kd)(zs:oj Str):oj (om Pt):=List.zipWith (y8 n) ks zs
def Wc {n:Nat}:∀{ks:oj Kd}{zs:oj Str},(jX n ks zs).any GC=v_->Yh n ks zs=US
 | [],_,h=>by simp[jX] at h
 |_::_,[],h=>by simp[jX] at h
 |k::ks,z::zs,h=>by
  rw[jX,Hk,Uk,GV] at h;unfold Yh;rcases h with h|h
  ·rw[Option.isNone_iff_eq_none.mp h]
  ·rw[Wc h];split
   ·rename_i h1 h2;cases h2
   ·rfl
def WV {n:Nat}:∀{ks:oj Kd}{zs:oj Str},↑zs=↑ks->(jX n ks zs).any GC=UT->∃ps,Yh n ks zs=u_ ps/\jX n ks zs=ps.map u_
 | [],[],_,_=>[[]:1:1]
 | [],_::_,hl,_=>by simp at hl
 |_::_,[],hl,_=>by simp at hl
 |k::ks,z::zs,hl,h=>by
  rw[jX,Hk,Uk,Bool.or_eq_false_iff] at h;obtain⟨ps,O,U⟩:=WV (ks:=ks) (zs:=zs) (by simpa using hl) h.2
  cases e:y8 n k z with
  |none=>rw[e] at h;cases h.1
  |some p=>
   exists p::ps,?_,?_
   ·unfold Yh;rw[e,O]
   ·rw[jX,Hk,e,uB]
    congr 1
def IU {H:Hp}:∀{os:oj (om Pt)}{vs:oj V},L2.IsL H (os.map NW) vs->vs.all Zb=v_/\inV .non vs=os.any GC
 | [],_,h=>by cases(show _= [] from h);exact[1:1]
 |q::ps,_,h=>by
  erw[h,v,r,rfl,h1,h2];erw[IU h2,U,Z];have O:Zb v=v_/\eqV v .non=q.isNone:=by
   cases q with
   |none=>cases(show v= .non from h1);exact[1:1]
   |some q=>
    cases q with
    |s z=>erw[h1,rfl,_];exact[1:1]
    |n i=>cases(show v= .int i from h1);exact[1:1]
  exists ?_,?_
  ·rw[vq,O.1,U];rfl
  ·show(eqV v .non||inV .non r)=_
   rw[O.2,Z];rfl
def Cj {α:Type}(l:oj α)(h:α->D)(f:Nat->D)(O:∀i q,l[i]? =u_ q->f i=h q):(V1 ↑l).map f=l.map h:=by
 apply List.ext_getElem
 ·simp
 ·intro i h1 h2;simp![ue,Te] at h1;simp![List.getElem_map,List.getElem_range];exact O i l[i] (uq h1)
def CI:#[C,2,a.f_row_of,a.d_row_of,["line","count"],BY]:=by
 have ZL:=#[WU,T];have Z:=#[My,T,C];have O:=#[CK,T];refine T.oI.F.ok Jq () (λ_ _ _ _ H vs Q E hr h=>?_)
 erw[h,v,d,n,rfl,hv,hn,k];exists 3,%[#[qG,#[Qo,#[Qd,#[qu,ZL,hr.mono (),T.mr,#v[pv 0]]]],%[|#[qp,qP]],qw],#[qC,(2),Jq.nd,#[qI,qF,#[jY,uS,PySem.F.slot_str_partition,PySem.F.type_str_partition,MZ,pv 0,#v[qj]],qh]],#[qG,#[qr,8,Mj,pv 2,#[pe_gR,C.m_FORMS],#[w]],%[|#[qp,qP]],qw],#[qC,(3),Jq.nd,#[qI,AaS,#[pe_gR,C.m_FORMS],pv 2]],#[qC,(4),Jq.nd,#[qu,O,hr.mono (),T.mz,#v[pv 0,pv 3]]],#[qG,#[qr,EX,#[qy,qN,T.yx,uK,#v[pv 4]],#[qY,yJ,qh,#[qy,qN,T.yx,uK,#v[pv 3]]]],%[|#[qp,qP]],qw],#[qC,(5),Jq.nd,#[Ql,Qn,T.Q8,vE,#v[#[xG,2,["kind","piece","count"],(2),[1],9,Ky (qi Zm) ["line","count","word","form","pieces","parts"],rfl,#[OO,9,_,T.z_zip,#v[pv 3,#[Xn,Ca,pv 4,#[XT,qh],Zu]],_,_],(λ_ _ _ _ _ _=>#[Mg,1,K,3,(2),1,rfl,rfl,QC #[qQ,(0),(show Vd (["kind","piece","count"]:oj Str) by decide+kernel)] (QC #[qQ,(1),(show Vd (["kind","piece","count"]:oj Str) by decide+kernel)] Jb),_,_]),(λ_ _ _ _ _ _=> @yM _),(λ_ _ _ _ _ _=>#[qu,Z,hr.mono (),T.mS,#v[pv 0,pv 1,pv 2]]),_]]]]|#[qp,#[Q4,#[qr,8,QT,qP,pv 5,#[w]],qP,#[qB,#v[pv 2,pv 5]]]]]
 exists 0,v,d,1,hv,0;cases e0:Iz d with
 |false=>
  rw[Bf e0] at k;exact QG rfl (k _ H (ic.refl _) rfl)
 |true=>
 erw[Lh e0,z,rfl];erw[hv,rfl,aq];have ht:Qs z=true:=e0;have hz:↑z<=300:=by
  have U:=ht;unfold Qs at U;rw[uC,uZ] at U;exact U.1
 have k:∀(v':V) (H':Hp),ic H H'->Is H' (AaQ (wf n z)) v'->Q v' H':=k;refine Qp rfl ?_
 exists 0,1,0,1,(),λt1 x1 x2 g1=>?_
 exists t1,_,(0),0,1,SqT.of qg,1;have s1:ic H (upd H t1 (.tup [.str (hd z),.str x1,.str x2])):=qf g1 _;generalize upd H t1 (.tup [.str (hd z),.str x1,.str x2])=H1 at s1⊢;unfold wf at k;rw[A6 ht] at k;cases ef:J7 (hd z) with
 |none=>
  rw[ef] at k
  exact⟨0,hd z,g.forms,0,1,C.kd,C.none_ _ ef,0,QG rfl (k _ _ s1 rfl)⟩
 |some ks=>
 have hk:=XR ef;rw[ef] at k;simp only at k;erw[C.forms _ hk,q,ag,aa];have hf:↑ks<=3:=AB _ hk
 exists 0,hd z,g.forms,0,1,C.kd,ag,0;refine Qp rfl ?_
 exists 0,hd z,g.forms,_,.ref q,1,1,C.kd,ag,1
 exists 0,0,z,ks,q,1,hz,hf,aa _,λp2 g2=>?_;have s2:ic H1 (upd H1 p2 (.lst ((pcs ks z).map V.str))):=qf g2 _;have e2:(upd H1 p2 (.lst ((pcs ks z).map V.str))) p2=u_ (.lst ((pcs ks z).map V.str)):=qg;generalize upd H1 p2 (.lst ((pcs ks z).map V.str))=H2 at s2 e2⊢
 exists 0,p2,0,.inl (SqL.of e2),0,q,0,.inr (aa _),_,0,1,1,0;by_cases hl:↑(pcs ks z)=1+↑ks
 case neg=>
  rw[A4 hl] at k;refine QG ?_ (k _ _ (s1.trans s2) rfl);rw[ue,ue];show(!decide (V.int _=V.int _))=v_;rw[uf]
  ·rfl
  ·intro q;have:(↑(pcs ks z):Int)=1+(↑ks:Int):=V.int.inj q;omega
 rw[A6 hl] at k;refine Qp ?_ ?_
 ·rw[ue,ue,show(↑(pcs ks z):Int)=1+(↑ks:Int) by omega]
  simp
 have ae:↑((pcs ks z).drop 1)=↑ks:=by rw[vS];omega
 have ah:∀p∈(pcs ks z).drop 1,↑p<=300:=λp hp=>by
  have U:=ht;unfold Qs at U;rw[uC,uZ] at U;exact(IY U.1 U.2 p (FO hp)).1
 exists 0,0,0,p2,0,SqL.of e2,λp3 g3=>?_;have ak:AK ((pcs ks z).map V.str) (u_ 1) US=((pcs ks z).drop 1).map V.str:=by
  rw[show(u_ (1:Int))=u_ (((1:Nat)):Int) from rfl,Z5 (by rw[ue];omega),List.map_drop]
 rw[ak];generalize (pcs ks z).drop 1=zs at ae ah k⊢;have s3:ic H2 (upd H2 p3 (.lst (zs.map V.str))):=qf g3 _;have e3:(upd H2 p3 (.lst (zs.map V.str))) p3=u_ (.lst (zs.map V.str)):=qg;generalize upd H2 p3 (.lst (zs.map V.str))=H3 at s3 e3⊢;have am:↑(jX n ks zs)=↑ks:=by rw[jX,List.length_zipWith];omega
 exists q,p3,_,0,aa _,SqL.of e3,λA1 gA=>?_;refine Pi (K:=K) (tl:= [u_ (.int (n:Int))]) (xs:=ks.map λk:Kd=>V.str k.t) (ys:=zs.map V.str) (λi=>NW ((jX n ks zs).getD i US)) (λH' _=>aa H') (λH' sm=>SqL.of (sm _ _ e3)) (by simp[ae]) (by rw[ue];exact yr ()) gA ?_ ?_
 ·intro i x y H4 R hx hy s4 hR;rw[uN] at hx hy;cases af:ks[i]? with
  |none=>rw[af] at hx;cases hx
  |some kd=>
   rw[af] at hx;cases hx;cases ac:zs[i]? with
   |none=>rw[ac] at hy;cases hy
   |some z1=>
    rw[ac] at hy;cases hy
    exists 0,0,0,n,kd,z1,1,hn,ah _ (vi ac),λv H5 s5 hv=>hR v H5 s5 ?_;have e:(jX n ks zs).getD i US=y8 n kd z1:=by simp[Vx,jX,List.getElem?_zipWith,af,ac]
    simp![e];exact hv
 intro H5 vs s5 e5 h5;have al:L2.IsL H5 ((jX n ks zs).map NW) vs:=by
  rw[ue,<-am] at h5;rw[Cj (jX n ks zs) NW _ (λi q1 hi=>by simp[Vx,hi])] at h5
  exact h5
 exists A1,vs,1,.inl [SqL.of e5:λt6 g6=>?_];have s6:ic H5 (upd H5 t6 (.tup vs)):=qf g6 _;have i6:Is (upd H5 t6 (.tup vs)) (.tup ((jX n ks zs).map NW)) (.ref t6):=Is.new al g6;have e6:(upd H5 t6 (.tup vs)) t6=u_ (.tup vs):=qg;generalize upd H5 t6 (.tup vs)=H6 at s6 i6 e6⊢;erw[IU al,f1,f2];have ad:=s1.trans (s2.trans (s3.trans (s5.trans s6)))
 exists 0,t6,vs,1,.inr (SqT.of e6),1,f1,0;rw[A4 uc,f2];refine lI (λc=>?_) (λc=>?_)
 ·rw[Wc c] at k;exact k _ _ ad rfl
 ·have c':(jX n ks zs).any GC=false:=by
   cases h:(jX n ks zs).any GC with
   |false=>rfl
   |true=>exact A8 h c
  erw[WV ae c',ps,q1,q2];rw[q1] at k;rw[q2,uU] at i6
  exists 0,0,(sml rfl),λt7 g7=>?_;have ao:↑(hd z)<=sizeLine:=by
   have ap:∀x∈FRM,↑x.1<=100:=by decide+kernel
   have:=ap _ hk;exact yr (by simp only at this;omega)
  exact k _ _ (ad.trans (qf g7 _)) (Is.new (ds:= [.str (hd z),.tup (ps.map Pt.d)]) ⟨_,0,[1:ao],_,0,i6,1⟩ g7)
def Cq {M:Nat}(hn:n<=40){k:Kd}{p:Pt}(h:ON n M k p):y8 n k p.t=u_ p:=by
 cases k with
 |words=>
  cases p with
  |s z=>rfl
  |n i=>cases h
 |box=>
  cases p with
  |s z=>exact XF h
  |n i=>cases h
 |line=>
  cases p with
  |s z=>cases h
  |n i=>
   have h1:1<=i/\i<=n:=h;have hm:(Pt.n i).t∈(V1 n).map λi:Nat=>(V2 (1+(i:Int)):Str):=Ae.mpr ⟨(i-1).toNat,List.mem_range.mpr (),by show(V2 (1+(((i-1).toNat:Nat):Int)):Str)=V2 i;rw[show 1+(((i-1).toNat:Nat):Int)=i by omega]⟩
   erw[J9 hm,j,U,j2,Z,e];rw[e];have b1:=kn (i:=i) h1.1 ()
   have b2:=kn (i:=j) U ()
   have O:(V2 i:Str)=V2 j:=Z;rw[O,b2] at b1;rw[uL b1]
def WG {n M:Nat}(hn:n<=40):∀{ks:oj Kd}{ps:oj Pt},xO n M ks ps->Yh n ks (ps.map Pt.t)=u_ ps
 | [],[],_=>rfl
 |k::ks,p::ps,h=>by
  rw[uB];unfold Yh;rw[Cq hn h.1,WG hn h.2]
 | [],_::_,h=>h.elim
 |_::_,[],h=>h.elim
variable {ks:oj Kd}
def DG {w:Str}(h:(w,ks)∈FRM):J7 w=u_ ks:=by
 cases e:J7 w with
 |none=>exact A8 rfl (Zo e _ h)
 |some O=>
  have:=DF _ (XR e) _ h rfl;rw[(Prod.mk.inj this).2]
variable {r:Rw}
def Be {M:Nat}(hn:n<=40)(h:jU n M r)(Z:Qs (y9 r)=v_):wf n (y9 r)=u_ r:=by
 have hh:=M9 h;erw[h,ks,U,O];unfold wf;rw[A6 Z,hh,DG U];simp only;have hs:pcs ks (y9 r)=txs r:=Iv hn U O;have hl:=zu O;rw[hs,A6 (by unfold txs;rw[um,ue];omega)]
 show Fe _ (Yh n ks (r.2.map Pt.t))=_;rw[WG hn O]
 rfl
nonrec def Yp (rs:oj Rw):D:= .tup (rs.map λr=> .str (y9 r))
structure ya (rs:oj Rw):Prop where
 n0:1<=↑rs
 n1:↑rs<=40
 ok:∀r∈rs,jU ↑rs 300 r
 tree:isT (Yp rs)=v_
def oF:∀{ds:oj D}{d:D},goodL ds=v_->d∈ds->iL d=v_
 |x::xs,d,h,hm=>by
  simp![goodL,uC] at h;rcases Aa.mp hm with rfl|hm
  ·exact h.1
  ·exact oF h.2 hm
variable {rs:oj Rw}
def ya.text (h:ya rs)(O:r∈rs):Qs (y9 r)=true:=by
 have h1:=h.tree;unfold isT at h1;rw[uC,uC] at h1;have h2:=h1.1.1;unfold Yp at h2;simp![iL,uC] at h2;have:=oF h2.2 (Ae.mpr [r:O:1])
 simpa only [iL] using this
nonrec def QI:D->om (oj Rw)
 | .tup ds=>if(decide (1<=↑ds)&&decide (↑ds<=40)&&ds.all (λd=>(Qj ↑ds d).isSome)&&isT (.tup ds))=v_ then u_ (ds.filterMap (Qj ↑ds)) else US
 |_=>US
def Xy (ds:oj D):QI (.tup ds)=if(decide (1<=↑ds)&&decide (↑ds<=40)&&ds.all (λd=>(Qj ↑ds d).isSome)&&isT (.tup ds))=v_ then u_ (ds.filterMap (Qj ↑ds)) else none:=rfl
def nG {n:Nat}:∀{rs:oj Rw},(∀r∈rs,Qj n (.str (y9 r))=u_ r)->(rs.map λr=>D.str (y9 r)).filterMap (Qj n)=rs
 | [],_=>rfl
 |r::rs,h=>by
  rw[uB,U2 (h r ui),nG λx O=>h x (uh _ O)]
def ya.rowD (h:ya rs)(O:r∈rs):Qj ↑rs (.str (y9 r))=u_ r:=Be h.n1 (h.ok r O) (h.text O)
def ya.read (h:ya rs):QI (Yp rs)=u_ rs:=by
 have Z:↑(rs.map λr=>D.str (y9 r))=↑rs:=ue ..;have U:=h.tree;unfold Yp at U⊢;rw[Xy,Z,A6]
 ·rw[nG λr O=>h.rowD O]
 ·rw[ud h.n0,ud h.n1,U,List.all_eq_true.mpr]
  ·rfl
  ·intro d hd;erw[Ae.mp hd,r,O,rfl];rw[h.rowD O]
   rfl
nonrec def AaY (d x y:D):Prop:=(∀rs,QI d=u_ rs->x= .tup (rs.map L2.rowD)/\y= .non)/\(QI d=US->∃i:Int,y= .int i)
inductive Lx:Sp
 |mk (v:V)(d:D)(_:vs= [v])(_:Is H d v)(_:∀(u:V)(H':Hp)(x y:D),ic H H'->AaY d x y->Is H' (.tup [x,y]) u->Q u H')
def Ci {d x:D}(h:QI d=US):AaY d x (.int i):=⟨λrs e=>(by rw[h] at e;cases e),λ_=>[i:1]⟩
def Xp {α:Type}{o:om α}(h:o.isSome=v_):∃x,o=u_ x:=by cases o with
 |none=>cases h
 |some x=>exact[x:1]
variable {ds:oj D}
def Cf {i:Nat}{d:D}(h1:ds[i]? =u_ d)(h2:Qj n d=u_ r):(ds.take (i+1)).filterMap (Qj n)=(ds.take i).filterMap (Qj n)++ [r]:=by
 rw[vD,h1,List.filterMap_append];simp[h2]
def sV {n:Nat}:∀{ds:oj D},(∀z∈ds,(Qj n z).isSome=v_)->↑(ds.filterMap (Qj n))=↑ds
 | [],_=>rfl
 |z::ds,h=>by
  erw[Xp (h z ui),r,e];rw[U2 e,um,um];exact A9 (·+1) (sV λy O=>h y (uh _ O))
def CJ:#[C,3,a.zL,a.zT,["value"],Lx]:=by
 have yE:=#[jk,T];have aa:=#[CI,T,C];refine T.lK.F.ok Yq () (λ_ _ _ _ H vs Q E hr h=>?_)
 erw[h,v,d,rfl,hv,k];exists 3,%[@qG _ _ _ _ _ _ _ _ #[wT,#[Qo,#[Qd,#[qy,#[qV,2,rfl],T.qT,uV,#v[pv 0,#[Q1,.ty "tuple",T.Q8,vE]]]]],#[zB,#[Qo,#[wr,12,Cv,Cv,qh,#[qy,qN,T.yx,uK,#v[pv 0]],#[kJ,T.m_MOST_LINES],_]]]].pt %[|#[qp,#[qB,#v[#[qB,qd],qh]]]] qw,#[qC,(1),Yq.nd,#[QF,qd]],#[xf,#[Ah,4,pv 0],#[qQ,(2),Yq.nd],%[#[qC,(3),Yq.nd,#[qu,aa,hr.mono (),T.oI,#v[pv 2,#[qy,qN,T.yx,uK,#v[pv 0]]]]],#[qG,#[qr,yL,pv 3,qP],%[|#[qp,#[qB,#v[#[Ql,Qn,T.Q8,vE,#v[pv 1]],#[qY,yJ,#[qy,qN,T.yx,uK,#v[pv 1]],qh]]]]],qw]|#[qZ,#[jY,vc,vL,vM,jc,pv 1,#v[pv 3]]]]]|#[qp,#[qB,#v[#[Ql,Qn,T.Q8,vE,#v[pv 1]],#[Q4,#[Qd,#[qu,yE,hr.mono (),T.iV,#v[pv 0]]],qP,qh]]]]]
 exists 0,v,"tuple",_,X6 d,1,hv.ty,xn d,0;have U:QI d=US->∀(t:o3),H t=US->∀t2,(upd H t (.tup [])) t2=US->Q (.ref t2) (upd (upd H t (.tup [])) t2 (.tup [.ref t,.int 1])):=λhn t g t2 Z=>
  k _ _ (.tup []) (.int 1) ((qf g _).trans (qf Z _)) (Ci hn) (Is.new (ds:= [.tup [],.int 1]) ⟨_,0,Is.new (ds:= []) rfl g,_,0,1,1⟩ Z)
 cases ht:X6 d with
 |false=>
  have hn:QI d=none:=by
   cases d with
   |tup ds=>cases ht
   |_=>rfl
  exact i9 (i9 [(sml rfl):λt g1=>[(sml rfl):λt2 Z=>U hn t g1 t2 Z]])
 |true=>
 obtain⟨ds,rfl⟩:∃ds,d= .tup ds:=by
  cases d with
  |tup ds=>exact[ds:1]
  |_=>cases ht
 refine iS ?_;have ad:=hv;erw[ad,va,us,rfl,ha,hu];have ae:↑us=↑ds:=↑hu
 exists 0,va,us,1,.inr (SqT.of ha),_,0,1,0;have no:¬(1<=↑ds/\↑ds<=40/\(∀z∈ds,(Qj ↑ds z).isSome=v_)/\isT (.tup ds)=v_)->QI (.tup ds)=none:=λhc=>by
  unfold QI;refine A4 λz=>hc ?_;simp![uC,uZ,U5] at z;exact⟨z.1.1.1,z.1.1.2,z.1.2,z.2⟩
 by_cases c1:1<=↑ds
 case neg=>
  refine Qp (uf ()) [0:?_]
  exact i9 [(sml rfl):λt g1=>[(sml rfl):λt2 Z=>U (no λz=>c1 z.1) t g1 t2 Z]]
 refine QG (ud ()) ?_
 exists _,0,1,0;by_cases c2:↑ds<=40
 case neg=>
  refine QG (by rw[uf ()];rfl) ?_
  exact[(sml rfl):λt g1=>[(sml rfl):λt2 Z=>U (no λz=>c2 z.2.1) t g1 t2 Z]]
 refine Qp (by rw[ud ()];rfl) ?_
 exists (sml rfl),λL1 g1=>?_
 exists 0,va,1,[us:SqT.of (qf g1 _ _ _ ha)]
 let J1_:Nat->L2.St->Hp->Prop:=λi σ H'=>i<=↑ds/\(∀z∈ds.take i,(Qj ↑ds z).isSome=v_)/\∃(ws:oj V) (x2 x3:om V),σ= [u_ (.ref va),u_ (.ref L1),x2,x3]/\H' L1=u_ (.lst ws)/\L2.IsL H' (((ds.take i).filterMap (Qj ↑ds)).map L2.rowD) ws/\ic H H'
 refine ko (K:=K) (a:=va) (xs:=us) J1_
  ⟨uW _,(λz hz=>by simp at hz),[],US,US,1,qg,1,qf g1 _⟩ (λi σ H' _ ⟨_,_,_,_,_,_,_,_,sm⟩=>SqT.of (sm _ _ ha)) ?_ ?_
 ·rintro i x σ H' hx ⟨ak,O,ws,x2,x3,rfl,e1,hw,sm⟩;have ac:i<↑ds:=by
   erw[Af.mp hx,h,_];omega
  erw[hu.get (i:=i) (d:=ds[i]) (uq ac),x',af,al];rw[hx] at af;cases af;have am:↑ws=i:=by
   rw[↑hw,ue,sV O,vN];omega
  exists 5
  refine⟨0,0,va,us,1,.inr (SqT.of (sm _ _ ha)),x,ds[i],↑ds,by rw[ae];rfl,al.mono sm.tk,c2,λv H2 s2 hv=>?_⟩
  have e2:=s2 _ _ e1;cases er:Qj ↑ds ds[i] with
  |some r=>
   rw[er] at hv;have hv:Is H2 (L2.rowD r) v:=hv;have ad:=hv;erw[ad,ag,ao,rfl,_,_]
   exists 0,1,0;refine Qp (uf λz=>by cases z) ?_
   exists 0,.inl [1:_:SqL.of e2],0,L1,ws,0,1,e2,Xo ()
   have t3:Tk H2 (upd H2 L1 (.lst (ws++ [.ref ag]))):=Tk.updL e2
   exists ac,λz hz=>?_,ws++ [.ref ag],_,0,qg,?_,λb o e=>?_
   ·rw[vD,uq ac] at hz;rcases Ac.mp hz with hz|hz
    ·exact O z hz
    ·have:z=ds[i]:=by simpa using hz
     rw[this,er]
     rfl
   ·rw[Cf (uq ac) er,uz];exact((hw.mono s2.tk).mono t3).append (IsL.one (hv.mono t3))
   ·rw[qk (ql e g1)];exact s2 b o (sm b o e)
  |none=>
   rw[er] at hv;cases(show v= .non from hv)
   exists 0,1,0;refine QG rfl ?_
   exists 0,L1,ws,1,.inl [SqL.of e2:λt1 Z=>?_];have s3:ic H2 (upd H2 t1 (.tup ws)):=qf Z _;have i3:Is (upd H2 t1 (.tup ws)) (.tup (((ds.take i).filterMap (Qj ↑ds)).map L2.rowD)) (.ref t1):=Is.new (hw.mono s2.tk) Z
   exists 0,L1,ws,1,.inl (SqL.of (s3 _ _ e2)),_,0,1,(sml rfl),λt4 g4=>?_;exact k _ _ _ (.int _) (sm.trans (s2.trans (s3.trans (qf g4 _)))) (Ci (no λz=>by have:=z.2.2.1 _ (uY ac);rw[er] at this;cases this)) (Is.new (ds:= [.tup (((ds.take i).filterMap (Qj ↑ds)).map L2.rowD),.int _]) ⟨_,0,i3,_,0,1,1⟩ g4)
 ·rintro σ H' ⟨ak,O,ws,x2,x3,rfl,e1,hw,sm⟩;rw[ae,Us] at hw O
  exists 0,L1,ws,1,.inl [SqL.of e1:λt1 Z=>?_];have s2:ic H' (upd H' t1 (.tup ws)):=qf Z _;have i2:Is (upd H' t1 (.tup ws)) (.tup ((ds.filterMap (Qj ↑ds)).map L2.rowD)) (.ref t1):=Is.new hw Z;generalize upd H' t1 (.tup ws)=H2 at s2 i2⊢
  exists 0,_,.tup ds,1,hv.mono (sm.trans s2).tk,λH3 s3=>?_
  exists 0;cases hT:isT (.tup ds) with
  |true=>
   refine QG rfl [(sml rfl):λt4 g4=>?_];have ah:QI (.tup ds)=u_ (ds.filterMap (Qj ↑ds)):=by
    rw[Xy,A6];rw[ud c1,ud c2,hT,List.all_eq_true.mpr O]
    rfl
   exact k _ _ _ .non (sm.trans (s2.trans (s3.trans (qf g4 _)))) ⟨λrs e=>(by rw[ah] at e;cases e;exact[1:1]),λe=>(by rw[ah] at e;cases e)⟩ (Is.new (ds:= [.tup ((ds.filterMap (Qj ↑ds)).map L2.rowD),.non]) ⟨_,0,i2.mono s3.tk,_,0,1,1⟩ g4)
  |false=>
   refine Qp rfl [(sml rfl):λt4 g4=>?_];exact k _ _ _ (.int 1) (sm.trans (s2.trans (s3.trans (qf g4 _)))) (Ci (no λz=>by have:=z.2.2.2;rw[hT] at this;cases this)) (Is.new (ds:= [.tup ((ds.filterMap (Qj ↑ds)).map L2.rowD),.int 1]) ⟨_,0,i2.mono s3.tk,_,0,1,1⟩ g4)
inductive Lv (br:Addr)(vs:List V)(H:Hp)(Q:VK)(E:XK):Prop
 |mk (v:V)(d:D)(_:vs= [v])(_:Is H d v)(_:(∀rs,QI d=u_ rs->∀(u:V)(H':Hp),ic H H'->Is H' (.tup (rs.map L2.rowD)) u->Q u H'))(_:(QI d=US->∀(e:Addr)(H':Hp),ic H H'->E (.ref e) (u_ br) H'))
def Mu (T:Tx K mg a)(C:Fx K w mg g a):FnOk P w K mg base (CX1 P w) 4 a.ZV a.wE ["tree"] (Lv g.br):=by
 have JJ:=#[CJ,T,C];refine T.ld.F.okX zw () (λ_ _ _ _ H _ Q E hr h=>?_)
 erw[h,v,d,rfl,hv,k,kB];exists 3,%[#[qC,(1),zw.nd,#[qu,JJ,hr.mono (),T.lK,#v[pv 0]]],#[qG,#[qr,W8,#[qI,qF,pv 1,qh],qP],%[|#[Ag,22,C.x_BadRule,_,C.m_BadRule,qj,_,_]],qw]|#[qp,#[qI,qF,pv 1,qh]]]
 exists 0,v,d,1,hv,λu H1 x y s1 hd U=>?_
 exists 0
 try dsimp![tC]
 refine xy (i:=1) (d:=y) U rfl λz Z=>?_;cases O:QI d with
 |none=>
  erw[hd.2 O,i,rfl];cases(show z= .int i from Z)
  exists 1,0;refine QG (by rw[uf (λz=>by cases z)];rfl) ?_
  exact[1:λe=>kB O e H1 s1]
 |some rs=>
  erw[hd.1 rs O,rfl,rfl];cases(show z= .non from Z)
  exists 1,0;refine Qp rfl ?_
  exists 0
  try dsimp![tC]
  refine xy (i:=0) (d:= .tup (rs.map L2.rowD)) U rfl λq hq=>?_;exact k rs O q H1 s1 hq
nonrec def kvB (f:Str->V):oj (Key×V):=BX.map λz=>(UV z,f z)
def Od {f:Str->V}:∀{zs:oj Str}{z:Str},z∈zs->iK (zs.map λz=>((UV z:Key),f z)) (UV z)=u_ (f z)
 |y::ys,z,h=>by
  rw[uB];by_cases e:y=z
  ·subst e;exact QL rfl
  ·have h':z∈ys:=by
    rcases Aa.mp h with rfl|h
    ·exact A8 rfl e
    ·exact h
   have:=Od (f:=f) h';unfold iK at this⊢;rw[vd];have O:decide ((UV y:Key)=UV z)=false:=uf λq=>e (Uf q);simp![O];exact this
def S3 {f:Str->V}{u:V}(h:z∈BX):lD (kvB f) (UV z) u=kvB λy=>if y=z then u else f y:=by
 unfold lD;rw[A6]
 ·unfold kvB;rw[uU];refine Uu λy _=>?_;by_cases e:y=z
  ·simp[e]
  ·simp[e]
 ·rw[Tp];exact⟨(UV z,f z),Ae.mpr [z:h:1],by simp⟩
nonrec def Ys (H:Hp)(d:o3)(B:Str->D):Prop:=∃f:Str->V,H d=u_ (.dK (kvB f))/\∀z∈BX,Is H (B z) (f z)
nonrec def sT (B:Str->D)(z:Str)(e:D):Str->D:=λy=>if y=z then e else B y
variable {H H':Hp}
def Ys.same {d:o3}{B:Str->D}(h:Ys H d B)(s:ic H H'):Ys H' d B:=let⟨f,e,i⟩:=h;[f:s _ _ e:λz O=>(i z O).mono s.tk]
def Ys.move {d:o3}{B:Str->D}(h:Ys H d B)(t:Tk H H')(e:H' d=H d):Ys H' d B:=let⟨f,e1,i⟩:=h;[f:e.trans e1:λz O=>(i z O).mono t]
def Ys.get {d:o3}{B:Str->D}(h:Ys H d B)(O:z∈BX):∃v,mJ H d (.str z) (u_ v)/\Is H (B z) v:=by
 erw[h,f,e,i];exists f z,?_,i z O;have:=mJ.k (k:=(UV z:Key)) e;rw[show iK (kvB f) (UV z)=u_ (f z) from Od O] at this
 exact this
variable {e:D}
def Ys.put {d:o3}{B:Str->D}{u:V}(h:Ys H d B)(U:z∈BX)(Z:Is H e u):∃kvs,Eg H d (.str z) u (upd H d (.dK kvs))/\Ys (upd H d (.dK kvs)) d (sT B z e)/\Tk H (upd H d (.dK kvs)):=by
 erw[h,f,O,i];refine⟨kvB λy=>if y=z then u else f y,.inl ⟨_,UV z,O,1,by show ↑BX<UX;rw[uD];decide,by rw[S3 U]⟩,[_:qg:λy hy=>?_],Tk.updD O⟩
 have t:Tk H (upd H d (.dK (kvB λy=>if y=z then u else f y))):=Tk.updD O
 unfold sT;by_cases c:y=z
 ·rw[A6 c,A6 c];exact Z.mono t
 ·rw[A4 c,A4 c];exact(i y hy).mono t
nonrec def xa:oj D->Bool
 | []=>v_
 | .str _::r=>xa r
 |_=>UT
nonrec def xb:oj D->oj Str
 | .str z::r=>z::xb r
 |_=> []
nonrec def b0 (ps:oj Pt):Str:=(ps.getD 0 (.s "")).t
nonrec def b1 (ps:oj Pt):Str:=(ps.getD 1 (.s "")).t
nonrec def b2 (ps:oj Pt):Str:=(ps.getD 2 (.s "")).t
nonrec def DJ:D->D
 | .str z=>if ↑z=0 then .non else .str ⟨#[z.cps.getD 0 0]⟩
 | .tup (x::_)=>x
 |_=> .non
nonrec def L4:D->D
 | .str z=>if ↑z=0 then .non else .str (GX z (u_ 1) US)
 | .tup (_::r)=> .tup r
 |_=> .non
nonrec def Ph:D->Nat
 | .str z=>↑z
 | .tup xs=>↑xs
 |_=>0
nonrec def AaP:D->D->D
 | .tup xs,e=> .tup (xs++ [e])
 |_,_=> .non
nonrec def Ps:D->D->D
 | .str x,.str y=> .str (x++y)
 |_,_=> .non
nonrec def AaV:D->D->D
 | .str z,.str y=>if ↑y=0 then .non else .tup ((spG z y).map .str)
 |_,_=> .non
nonrec def Pw:D->D->D
 | .tup xs,.str y=>if xa xs=v_ then .str (V0 y (xb xs)) else .non
 |_,_=> .non
nonrec def made (w:Str)(B:Str->D)(own:Str)(ps:oj Pt):D:=
 if w="text" then .str (b1 ps) else if w="self" then .str own else if w="copy" then B (b1 ps) else if w="row" then .tup [] else
 if w="put" then AaP (B (b0 ps)) (B (b1 ps)) else if w="join" then Ps (B (b0 ps)) (B (b1 ps)) else if w="first" then DJ (B (b1 ps)) else if w="rest" then L4 (B (b1 ps)) else
 if w="size" then .str (V2 ((Ph (B (b1 ps)):Nat):Int)) else if w="cut" then AaV (B (b1 ps)) (B (b2 ps)) else Pw (B (b1 ps)) (B (b2 ps))
variable {ps:oj Pt}
def QR {m:Nat}{w:Str}(h:jU n m (w,ps))(O:(w,ks)∈FRM):xO n m ks ps:=by
 erw[h,U,h1,h2];have:=DF _ h1 _ O rfl;cases this;exact h2
def SR {m:Nat}(h:xO n m [.box] ps):∃x,ps= [.s x]/\x∈BX:=by
 match ps,h with
 | [.s x],h=>exact[x:1:h.1]
 | [.n _],h=>exact h.1.elim
def Z0 {m:Nat}(h:xO n m [.box,.box] ps):∃x y,ps= [.s x,.s y]/\x∈BX/\y∈BX:=by
 match ps,h with
 | [.s x,.s y],h=>exact⟨x,y,1,h.1,h.2.1⟩
 | [.n _,_],h=>exact h.1.elim
 | [.s _,.n _],h=>exact h.2.1.elim
def Kg {m:Nat}(h:xO n m [.box,.box,.box] ps):∃x y z,ps= [.s x,.s y,.s z]/\x∈BX/\y∈BX/\z∈BX:=by
 match ps,h with
 | [.s x,.s y,.s z],h=>exact⟨x,y,z,1,h.1,h.2.1,h.2.2.1⟩
 | [.n _,_,_],h=>exact h.1.elim
 | [.s _,.n _,_],h=>exact h.2.1.elim
 | [.s _,.s _,.n _],h=>exact h.2.2.1.elim
def SQ {m:Nat}(h:xO n m [.box,.words] ps):∃x y,ps= [.s x,.s y]/\x∈BX/\↑y<=m/\y.cps.toList.all Qz=true:=by
 match ps,h with
 | [.s x,.s y],h=>exact⟨x,y,1,h.1,h.2.1⟩
 | [.n _,_],h=>exact h.1.elim
 | [.s _,.n _],h=>exact h.2.1.elim
def OD {m:Nat}(h:xO n m [.box,.line] ps):∃x,∃i:Int,ps= [.s x,.n i]/\x∈BX/\1<=i/\i<=n:=by
 match ps,h with
 | [.s x,.n i],h=>exact⟨x,i,1,h.1,h.2.1⟩
 | [.n _,_],h=>exact h.1.elim
 | [.s _,.s _],h=>exact h.2.1.elim
def OE {m:Nat}(h:xO n m [.box,.box,.line] ps):∃x y,∃i:Int,ps= [.s x,.s y,.n i]/\x∈BX/\y∈BX/\1<=i/\i<=n:=by
 match ps,h with
 | [.s x,.s y,.n i],h=>exact⟨x,y,i,1,h.1,h.2.1,h.2.2.1⟩
 | [.n _,_,_],h=>exact h.1.elim
 | [.s _,.n _,_],h=>exact h.2.1.elim
 | [.s _,.s _,.s _],h=>exact h.2.2.1.elim
nonrec def Ed (H:Hp)(t:o3)(ps:oj Pt):Prop:=Is H (.tup (ps.map Pt.d)) (.ref t)
nonrec def Tr (B:Str->D):Prop:=∀z∈BX,isT (B z)=v_
inductive Xi (w:Str):Sp
 |mk (d t:Addr)(own:Str)(B:Str->D)(ps:List Pt)(n:Nat)(_:vs= [.ref d,.str own,.ref t])(_:Ys H d B)(_:Tr B)(_:↑own<=100)(_:jU n 300 (w,ps))(_:Ed H t ps)(_:∀(v:V)(H':Hp),ic H H'->Is H' (made w B own ps) v->Q v H')
variable {Q:VK}
def D9 {K:o0}{t:o3}{i:Nat}(h:Ed H t ps)(e:ps[i]? =u_ (.s z))(q:Q (.str z) H):Kj K (.ref t) (.int (i:Int)) H Q:=
 xy (d:= .str z) h (qU (by rw[uN,e];rfl)) λx O=>by erw[O,rfl,_];exact q
def x9 {d:D}(h:isT d=v_):dp d<=12:=by
 unfold isT at h;rw[uC] at h;exact uu h.2
def KG {d:D}(h:isT d=v_):sz d<=600:=by
 unfold isT at h;rw[uC,uC] at h;exact uu h.1.2
def Y9 {d:D}(h:isT d=v_):Ph d<=600:=by
 have h1:=KG h;cases d with
 |str z=>simp![sz] at h1;show ↑z<=600;omega
 |tup xs=>
  unfold isT at h;rw[uC,uC] at h;have h2:=h.1.1;simp![iL,uC] at h2;have:=uu h2.1;show ↑xs<=600;omega
 |_=>exact uW _
def sI (z y:Str):↑(z++y:Str)=↑z+↑y:=by
 show(z.cps++y.cps).size=z.cps.size+y.cps.size;exact tG
def mZ {K:o0}{t d:o3}{B:Str->D}{i:Nat}(O:Ys H d B)(h:Ed H t ps)(e:ps[i]? =u_ (.s z))(U:z∈BX)(q:∀v,Is H (B z) v->Q v H):Kj K (.ref t) (.int (i:Int)) H (λy H2=>K0 Q (.ref d) y H2):=by
 erw[O.get U,v,Z,iv];exact D9 h e ⟨d,v,1,Z,q v iv⟩
def Mq:#[T,1,a.xx,a.Z6,["boxes","own","parts"],(Xi "text")]:=by
 exists 9,T.jB,nj,Z
 erw[h,d,t,own,B,ps,n,rfl,hB,hT,ho,O,U,k];exists 3,%[|#[qp,#[qI,qF,pv 2,qh]]]
 erw[SQ (QR O ()),x,y,rfl,hx,hy,hs]
 exact⟨0,D9 (i:=1) U rfl (k _ H (ic.refl _) ⟨1,yr (by show ↑y<=1000;omega)⟩)⟩
def Mt:#[T,1,a.xh,a.ZR,["boxes","own","parts"],(Xi "self")]:=by
 exists 9,T.lc,nw,U
 erw[h,d,t,own,B,ps,n,rfl,Z,hT,ho,O,hp,k];exists 3,%[|#[qp,pv 1]]
 exact⟨0,k _ H (ic.refl _) ⟨1,yr (by show ↑own<=1000;omega)⟩⟩
def O1:#[T,1,a.XW,a.Ww,["boxes","own","parts"],(Xi "row")]:=by
 exists 9,T.lJ,pA,Z
 erw[h,d,t,own,B,ps,n,rfl,hB,hT,ho,U,hp,k];exists 3,%[|#[qp,#[qB,qd]]]
 exact[(sml rfl):λl O=>k _ _ (qf O _) (Is.new (ds:= []) rfl O)]
def ML:#[T,1,a.xj,a.ZD,["boxes","own","parts"],(Xi "copy")]:=by
 exists 9,T.lp,nC,U
 erw[h,d,t,own,B,ps,n,rfl,Z,hT,ho,O,hp,k];exists 3,%[|#[qp,#[Qt,6,QU U,pv 0,#[qI,qF,pv 2,qh],(λ_ _=>rfl)]]]
 erw[Z0 (QR O ()),x,y,rfl,hx,hy]
 exists 0,0;exact mZ (i:=1) Z hp rfl hy λv iv=>k _ H (ic.refl _) iv
def O2:#[T,1,a.zm,a.Wl,["boxes","own","parts"],(Xi "put")]:=by
 exists 9,T.lL,Zq
 erw[h,d,t,own,B,ps,n,rfl,hB,hT,ho,aa,O,k];exists 3,%[#[qC,(3),Zq.nd,#[Qt,pv 0,#[qI,qF,pv 2,qh]]],#[qG,#[Qo,#[Qd,#[qy,#[qV,2,rfl],T.qT,uV,#v[pv 3,#[Q1,.ty "tuple",T.Q8,vE]]]]],%[|#[qp,qP]],qw]|#[qp,#[qY,zp,pv 3,#[qB,#v[#[Qt,pv 0,#[qI,qF,pv 2,qh]]]]]]]
 erw[Z0 (QR aa ()),x,y,rfl,hx,hy]
 exists 0,0;refine mZ (i:=0) hB O rfl hx λv iv=>?_
 exists 0,v,"tuple",tyD (B x),X6 (B x),1,iv.ty,xn _,0;have U:=Y9 (hT x hx);have k':∀(v:V) (H':Hp),ic H H'->Is H' (AaP (B x) (B y)) v->Q v H':=k;generalize B x=dx at iv k' U⊢;cases dx with
 |tup xs=>
  refine iS ?_;erw[iv,r,rs,rfl,er,ir]
  exists 0,0,0;refine mZ (i:=1) hB O rfl hy λu iu=>?_
  exists (sml rfl),λl Z=>⟨r,l,rs,[u],1,1,SqT.of (qf Z _ _ _ er),SqT.of qg,?_,λe=>?_,λ_ e=>(by cases e),λ_ _ p O=>?_⟩
  ·rw[↑ir];have:↑xs<=600:=U;exact yr (by show ↑xs+1<=1000;omega)
  ·subst e;have e2:xs= []:=U4 ir.length.symm;subst e2;exact k' _ _ (qf Z _) (Is.new (ds:= [B y]) (IsL.one iu) Z)
  ·have t1:Tk H (upd H l (.tup [u])):=(qf Z _).tk;exact k' _ _ ((qf Z _).trans (qf O _)) (Is.new (ds:=xs++ [B y]) ((ir.mono t1).append (IsL.one (iu.mono t1))) O)
 |_=>exact i9 (k' _ H (ic.refl _) rfl)
def MF:#[T,1,a.xv,a.wB,["boxes","own","parts"],(Xi "join")]:=by
 exists 9,T.lj,Jy
 erw[h,d,t,own,B,ps,n,rfl,hB,hT,ho,aa,hp,k];exists 3,%[#[qC,(3),Jy.nd,#[Qt,pv 0,#[qI,qF,pv 2,qh]]],#[qC,(4),Jy.nd,#[Qt,pv 0,#[qI,qF,pv 2,qh]]],@qG _ _ _ _ _ _ _ _ #[wT,#[Qo,#[Qd,#[qy,#[qV,2,rfl],T.qT,uV,#v[pv 3,#[Q1,.ty "str",T.zn,Ut]]]]],#[zB,#[Qo,#[Qd,#[qy,#[qV,2,rfl],T.qT,uV,#v[pv 4,#[Q1,.ty "str",T.zn,Ut]]]]]]].pt %[|#[qp,qP]] qw|#[qp,#[qY,Qf,pv 3,pv 4]]]
 erw[Z0 (QR aa ()),x,y,rfl,hx,hy]
 exists 0,0;refine mZ (i:=0) hB hp rfl hx λv iv=>?_
 exists 0,0;refine mZ (i:=1) hB hp rfl hy λu iu=>?_;have lx:=Y9 (hT x hx);have ly:=Y9 (hT y hy);have O:∀(v:V) (H':Hp),ic H H'->Is H' (Ps (B x) (B y)) v->Q v H':=k;generalize B x=dx at iv O lx⊢;generalize B y=U at iu O ly⊢
 exists 0,v,"str",tyD dx,isStr dx,1,iv.ty,jx _,0;cases dx with
 |str z=>
  refine iS ⟨0,u,"str",tyD U,isStr U,1,iu.ty,jx _,0,?_⟩;cases U with
  |str Z=>
   refine iS ?_;erw[iv,rfl,_];erw[iu,rfl,_];have h1:↑z<=600:=lx;have h2:↑Z<=600:=ly;exact⟨0,0,_,0,1,mI (),O _ H (ic.refl _) ⟨1,by rw[show(z++Z).length=↑z+↑Z from sI z Z];exact mI ()⟩⟩
  |_=>exact i9 (O _ H (ic.refl _) rfl)
 |_=>exact i9 (O _ H (ic.refl _) (by cases U<;>rfl))
def Ic:#[T,1,a.Ju,a.zK,["boxes","own","parts"],(Xi "first")]:=by
 exists 9,T.iT,Xw
 erw[h,d,t,own,B,ps,n,rfl,hB,hT,ho,Z,hp,k];exists 3,%[#[qC,(3),Xw.nd,#[Qt,pv 0,#[qI,qF,pv 2,qh]]]|#[qp,#[Q4,#[qr,pK,#[qy,Jm,T.yx,uK,#v[pv 3]],qh],#[qI,Jl,pv 3,qh],qP]]]
 erw[Z0 (QR Z ()),x,y,rfl,hx,hy]
 exists 0,0;refine mZ (i:=1) hB hp rfl hy λv U=>?_;have ly:=Y9 (hT y hy);have hg:=hT y hy;have O:∀(v:V) (H':Hp),ic H H'->Is H' (DJ (B y)) v->Q v H':=k;generalize B y=dy at U O ly hg⊢;cases dy with
 |str z=>
  erw[U,rfl,hz]
  exists 0,.inl ⟨z,1,hz,_,0,1,0,?_⟩;refine lI (λc=>?_) (λc=>?_)
  ·have h0:1<=↑z:=by have:=uu c;omega
   have k2:Is H (DJ (.str z)) (.str ⟨#[z.cps.getD 0 0]⟩):=by
    show Is H (if ↑z=0 then D.non else _) _
    rw[A4 ()]
    exact⟨1,yr (by show 1<=1000;decide)⟩
   exact[0:.inr (.inr ⟨z,(0),0,1,hz,AD h0,O _ H (ic.refl _) k2⟩)]
  ·have h0:↑z=0:=by
    rcases Fn ↑z with e|e
    ·exact e
    ·exact A8 (ud ()) c
   exact O _ H (ic.refl _) (by show Is H (if ↑z=0 then D.non else _) _;rw[A6 h0];rfl)
 |tup xs=>
  have aa:=U;erw[aa,r,rs,rfl,er,ir]
  exists 0,.inr ⟨r,rs,1,.inr (SqT.of er),λ_=>⟨_,0,1,0,?_⟩⟩;have hl:=↑ir;cases xs with
  |nil=>exact Qp (uf (by rw[hl];decide)) (O _ H (ic.refl _) rfl)
  |cons e es=>
   refine QG (ud (by rw[hl,um];omega)) ?_
   exact[0:.inr (.inl (xy (i:=0) (d:=e) U (qU (j:=0) rfl) λq hq=>O _ H (ic.refl _) hq))]
 |_=>simp[isT,iL] at hg
def WM:∀xs:oj D,xa xs=xs.all isStr
 | []=>rfl
 | .str _::r=>by show xa r=_;rw[WM r];rfl
 | .non::_| .bl _::_| .int _::_| .lst::_| .dct::_| .tup _::_=>rfl
def sR:∀{xs:oj D},xa xs=v_->xs=(xb xs).map D.str
 | [],_=>rfl
 | .str z::r,h=>by
  show D.str z::r=D.str z::(xb r).map D.str;rw[<-sR (show xa r=v_ from h)]
def IsL.strs {H:Hp}:∀{l:oj Str}{vs:oj V},L2.IsL H (l.map D.str) vs->vs=l.map V.str
 | [],_,h=>h
 |_::_,_,h=>by
  erw[h,v,r,rfl,h1,h2];rw[IsL.strs h2,h1.1];rfl
def IsL.ofStrs {H:Hp}:∀{l:oj Str},(∀z∈l,↑z<=UX)->L2.IsL H (l.map D.str) (l.map V.str)
 | [],_=>rfl
 |z::l,h=>⟨_,0,[1:h z ui],IsL.ofStrs λy O=>h y (uh _ O)⟩
def sQ:∀(l:oj Str),(l.map (·.length)).sum+↑l=szL (l.map D.str)
 | []=>rfl
 |z::l=>by
  have:=sQ l;simp![uB,Ul,um,szL,sz];omega
def Dm (sep:Str):∀(l:oj Str),↑(V0 sep l)<=(l.map (·.length)).sum+↑l*↑sep
 | []=>uW _
 | [x]=>by simp[V0]
 |x::y::r=>by
  have O:=Dm sep (y::r);have e:↑(V0 sep (x::y::r))=↑x+↑sep+↑(V0 sep (y::r)):=by
   show((x.cps++sep.cps)++(V0 sep (y::r)).cps).size=_;rw[tG,tG]
   rfl
  rw[e,uB,Ul,um,Nat.succ_mul];omega
def Mx:#[T,1,a.xp,a.wk,["boxes","own","parts"],(Xi "rest")]:=by
 exists 9,T.lf,zt
 erw[h,d,t,own,B,ps,n,rfl,hB,hT,ho,Z,U,k];exists 3,%[#[qC,(3),zt.nd,#[Qt,pv 0,#[qI,qF,pv 2,qh]]]|#[qp,#[Q4,#[qr,pK,#[qy,Jm,T.yx,uK,#v[pv 3]],qh],#[Xn,OC,pv 3,#[XT,qh],Zu],qP]]]
 erw[Z0 (QR Z ()),x,y,rfl,hx,hy]
 exists 0,0;refine mZ (i:=1) hB U rfl hy λv iv=>?_;have ly:=Y9 (hT y hy);have hg:=hT y hy;have O:∀(v:V) (H':Hp),ic H H'->Is H' (L4 (B y)) v->Q v H':=k;generalize B y=dy at iv O ly hg⊢;cases dy with
 |str z=>
  erw[iv,rfl,hz]
  exists 0,.inl ⟨z,1,hz,_,0,1,0,?_⟩;refine lI (λc=>?_) (λc=>?_)
  ·have h0:1<=↑z:=by have:=uu c;omega
   have k2:Is H (L4 (.str z)) (.str (GX z (u_ 1) US)):=by
    show Is H (if ↑z=0 then D.non else _) _
    rw[A4 ()]
    exact[1:uQ (rR z _ _) hz]
   exact[0:0:.inl ⟨z,1,hz,O _ H (ic.refl _) k2⟩]
  ·have h0:↑z=0:=by
    rcases Fn ↑z with e|e
    ·exact e
    ·exact A8 (ud ()) c
   exact O _ H (ic.refl _) (by show Is H (if ↑z=0 then D.non else _) _;rw[A6 h0];rfl)
 |tup xs=>
  have aa:=iv;erw[aa,r,rs,rfl,er,ir]
  exists 0,.inr ⟨r,rs,1,.inr (SqT.of er),λ_=>⟨_,0,1,0,?_⟩⟩;have hl:=↑ir;cases xs with
  |nil=>exact Qp (uf (by rw[hl];decide)) (O _ H (ic.refl _) rfl)
  |cons e es=>
   refine QG (ud (by rw[hl,um];omega)) ?_
   erw[ir,v0,r0,rfl,i0,i1]
   exists 0,0,.inr ⟨r,v0::r0,1,SqT.of er,λh=>?_,λ_ p U=>?_⟩
   ·exfalso;have:=h.1;simp[HT.sIx] at this
   ·have e1:AK (v0::r0) (u_ 1) US=r0:=by
     rw[show(u_ (1:Int))=u_ (((1:Nat)):Int) from rfl,Z5 (by simp)]
     rfl
    rw[e1];exact O _ _ (qf U _) (Is.new i1 U)
 |_=>simp[isT,iL] at hg
def Ms:#[T,1,a.xR,a.ZU,["boxes","own","parts"],(Xi "size")]:=by
 exists 9,T.ky,nu
 erw[h,d,t,own,B,ps,n,rfl,hB,hT,ho,O,hp,k];exists 3,%[|#[qp,#[Ql,YO,T.zn,Ut,#v[#[qy,Jm,T.yx,uK,#v[#[Qt,pv 0,#[qI,qF,pv 2,qh]]]]]]]]
 erw[Z0 (QR O ()),x,y,rfl,hx,U]
 exists 0,0;refine mZ (i:=1) hB hp rfl U λv Z=>?_;have ly:=Y9 (hT y U);have hg:=hT y U;have k':∀(v:V) (H':Hp),ic H H'->Is H' (.str (V2 ((Ph (B y):Nat):Int))) v->Q v H':=k;generalize B y=dy at Z k' ly hg⊢;have sm:∀n:Nat,n<=600->((n:Int)).natAbs.log2<1920/\↑((V2 (n:Int):Str))<=sizeLine:=by
  intro n hn;have h2:=UQ ((n:Int)).natAbs;exact[():int_text_fits ()]
 cases dy with
 |str z=>
  erw[Z,rfl,hz];have h2:=sm ↑z ly;exact .inl ⟨z,1,hz,0,h2.1,k' _ H (ic.refl _) [1:h2.2]⟩
 |tup xs=>
  have aa:=Z;erw[aa,r,rs,rfl,er,ir];have h2:=sm ↑xs ly;refine .inr ⟨r,rs,1,.inr (SqT.of er),λ_=>[0:?_:?_]⟩
  ·rw[↑ir];exact h2.1
  ·rw[↑ir];exact k' _ H (ic.refl _) [1:h2.2]
 |_=>simp[isT,iL] at hg
def O5:#[T,1,a.XY,a.WW,["boxes","own","parts"],(Xi "cut")]:=by
 exists 9,T.lN,xN
 erw[h,d,t,own,B,ps,n,rfl,hB,hT,ho,aa,Z,k];exists 3,%[#[qC,(3),xN.nd,#[Qt,pv 0,#[qI,qF,pv 2,qh]]],#[qC,(4),xN.nd,#[Qt,pv 0,#[qI,qF,pv 2,qh]]],@qG _ _ _ _ _ _ _ _ #[wT,#[Qo,#[Qd,#[qy,#[qV,2,rfl],T.qT,uV,#v[pv 3,#[Q1,.ty "str",T.zn,Ut]]]]],#[wT,#[Qo,#[Qd,#[qy,#[qV,2,rfl],T.qT,uV,#v[pv 4,#[Q1,.ty "str",T.zn,Ut]]]]],#[zB,#[qr,Qq,pv 4,qj]]]].pt %[|#[qp,qP]] qw|#[qp,#[Ql,Qn,T.Q8,vE,#v[#[jY,uS,U9,Ua,Da,pv 3,#v[pv 4]]]]]]
 erw[Kg (QR aa ()),x0,x,y,rfl,ac,hx,hy]
 exists 0,0;refine mZ (i:=1) hB Z rfl hx λv iv=>?_
 exists 0,0;refine mZ (i:=2) hB Z rfl hy λu iu=>?_;have lx:=Y9 (hT x hx);have ly:=Y9 (hT y hy);have U:∀(v:V) (H':Hp),ic H H'->Is H' (AaV (B x) (B y)) v->Q v H':=k;generalize B x=dx at iv U lx⊢;generalize B y=dy at iu U ly⊢
 exists 0,v,"str",tyD dx,isStr dx,1,iv.ty,jx _,0;cases dx with
 |str z=>
  refine iS ⟨0,u,"str",tyD dy,isStr dy,1,iu.ty,jx _,0,?_⟩;cases dy with
  |str O=>
   refine iS ?_;erw[iv,rfl,_];erw[iu,rfl,_];have h1:↑z<=600:=lx;have h2:↑O<=600:=ly
   exists 0,1,0;refine lI (λc=>?_) (λc=>?_)
   ·have e:O="":=by have:=uu c;injection this
    subst e;exact U _ H (ic.refl _) rfl
   ·have h3:↑O≠0:=λh=>c (ud (by
     have:O="":=by
      have h4:O.cps= #[]:=Array.eq_empty_of_size_eq_zero h;cases O;simp only at h4;subst h4
      decide+kernel
     rw[this]))
    exists 0,1,0,z,O,1,1,(),(),λp Z=>[p:0:.inl [SqL.of qg:λl hl=>?_]]
    have s1:ic H (upd H p (.lst ((spG z O).map V.str))):=qf Z _;refine U _ _ (s1.trans (qf hl _)) ?_;show Is _ (if ↑O=0 then D.non else .tup ((spG z O).map D.str)) _
    rw[A4 h3];exact Is.new (IsL.ofStrs λq hq=>yr (by have:=LT hq;omega)) hl
  |_=>exact i9 (U _ H (ic.refl _) rfl)
 |_=>exact i9 (U _ H (ic.refl _) (by cases dy<;>rfl))
def MI:#[T,1,a.xo,a.ZG,["boxes","own","parts"],(Xi "glue")]:=by
 exists 9,T.lm,JD
 erw[h,d,t,own,B,ps,n,rfl,hB,hT,ho,ae,hp,k];exists 3,%[#[qC,(3),JD.nd,#[Qt,pv 0,#[qI,qF,pv 2,qh]]],#[qC,(4),JD.nd,#[Qt,pv 0,#[qI,qF,pv 2,qh]]],@qG _ _ _ _ _ _ _ _ #[wT,#[Qo,#[Qd,#[qy,#[qV,2,rfl],T.qT,uV,#v[pv 3,#[Q1,.ty "tuple",T.Q8,vE]]]]],#[zB,#[Qo,#[Qd,#[qy,#[qV,2,rfl],T.qT,uV,#v[pv 4,#[Q1,.ty "str",T.zn,Ut]]]]]]].pt %[|#[qp,qP]] qw,#[qG,#[Qo,#[Qd,#[qy,#[Zs,1,rfl],T.z_all,tm,#v[#[xG,["part"],[],Kz,#[X7,pv 3],(λ_ _ _ _ _ _=>#[qQ,(0),(show Vd (["part"]:oj Str) by decide+kernel)]),(λ_ _ _ _ _ _=> @yM _),(λ_ _ _ _ _ _=>#[qy,#[qV,2,rfl],T.qT,uV,#v[pv 0,#[Q1,.ty "str",T.zn,Ut]]])]]]]],%[|#[qp,qP]],qw]|#[qp,#[jY,uS,vX,vY,Ir,pv 4,#v[pv 3]]]]
 erw[Kg (QR ae ()),x0,x,y,rfl,ah,hx,hy]
 exists 0,0;refine mZ (i:=1) hB hp rfl hx λv iv=>?_
 exists 0,0;refine mZ (i:=2) hB hp rfl hy λu iu=>?_;have lx:=Y9 (hT x hx);have hg:=hT x hx;have ly:=Y9 (hT y hy);have U:∀(v:V) (H':Hp),ic H H'->Is H' (Pw (B x) (B y)) v->Q v H':=k;generalize B x=dx at iv U lx hg⊢;generalize B y=dy at iu U ly⊢
 exists 0,v,"tuple",tyD dx,X6 dx,1,iv.ty,xn _,0;cases dx with
 |tup xs=>
  refine iS ⟨0,u,"str",tyD dy,isStr dy,1,iu.ty,jx _,0,?_⟩;cases dy with
  |str Z=>
   refine iS ?_;erw[iv,r,rs,rfl,er,ir];erw[iu,rfl,_];have h1:↑xs<=600:=lx;have h2:↑Z<=600:=ly
   exists 0,r,rs,1,SqT.of er,λak A0 af=>?_;refine pW (tl:= []) (λd=> .bl (isStr d)) er ir (mI ()) af (λd0 x0 H3 R al s3 i3 q=>⟨0,x0,"str",tyD d0,isStr d0,1,i3.ty,jx _,q _ H3 (ic.refl _) rfl⟩) λH1 ys s1 l1 i1=>?_
   have ey:ys=(xs.map isStr).map V.bl:=IsL.bls (by rwa[uU])
   subst ey
   exists A0,xs.map isStr,1,SqL.of l1,0;have aa:(xs.map isStr).all id=xa xs:=by rw[WM,Uw];rfl
   rw[aa];cases O:xa xs with
   |false=>exact i9 (U _ H1 s1 (by show Is H1 (if xa xs=v_ then _ else D.non) _;rw[O];rfl))
   |true=>
    have ac:=sR O;have ag:rs=(xb xs).map V.str:=IsL.strs (by rwa[<-ac])
    have hsz:=KG hg;have ad:=sQ (xb xs);rw[<-ac] at ad;simp![sz] at hsz;have am:↑(xb xs)*↑Z<=600*600:=Nat.mul_le_mul () h2
    have hj:=Dm Z (xb xs);refine iS ⟨0,1,0,Z,r,xb xs,1,1,SqT.of (by rw[s1 _ _ er,ag]),(),?_⟩
    refine U _ H1 s1 ?_;show Is H1 (if xa xs=v_ then .str (V0 Z (xb xs)) else D.non) _
    rw[O];exact[1:mI ()]
  |_=>exact i9 (U _ H (ic.refl _) rfl)
 |_=>exact i9 (U _ H (ic.refl _) (by cases dy<;>rfl))
nonrec def KC (w:Str)(B:Str->D)(ps:oj Pt):Bool:=if w="like" then eqD (B (b0 ps)) (B (b1 ps)) else if w="rowed" then X6 (B (b0 ps)) else if w="none" then decide (Ph (B (b0 ps))=0) else v_
nonrec def JMP:oj Str:= ["go","like","rowed","none"]
nonrec def ASK:oj Str:= ["ask","has","names"]
nonrec def flt (w:Str):D:= .tup [.str "fault",.str w]
nonrec def oY (w:Str)(held:D):D:=if w="names" then(if isStr held=v_ then .tup [.str "asks",.tup [.str "names",held]] else flt "kind") else if mx held=v_ then .tup [.str "asks",.tup [.str (if w="ask" then "thing" else "has"),held]] else flt "name"
inductive LI:Sp
 |mk (d t:Addr)(w:Str)(B:Str->D)(ps:List Pt)(n:Nat)(_:vs= [.ref d,.str w,.ref t])(_:Ys H d B)(_:Tr B)(_:w∈JMP)(_:jU n 300 (w,ps))(_:Ed H t ps)(_:Q (.bl (KC w B ps)) H)
inductive EJ:Sp
 |mk (w:Str)(v:V)(d:D)(_:vs= [.str w,v])(_:w∈ASK)(_:Is H d v)(_:∀(u:V)(H':Hp),ic H H'->Is H' (oY w d) u->Q u H')
mutual
theorem Dz:∀{d:D},iL d=v_->puD d=v_
 | .str _,_=>rfl
 | .tup xs,h=>by
  simp![iL,uC] at h;show puL xs=v_;exact goodL_pu h.2
 | .non,h| .bl _,h| .int _,h| .lst,h| .dct,h=>by simp[iL] at h
theorem goodL_pu:∀{xs:oj D},goodL xs=v_->puL xs=v_
 | [],_=>rfl
 |x::r,h=>by
  simp![goodL,uC] at h;simp![puL,Dz h.1,goodL_pu h.2,Fu]
end
def Nl {d:D}(h:iL d=v_):trD d=true:=by
 cases d with
 |str z=>rfl
 |tup xs=>exact Dz (d:= .tup xs) h
 |_=>simp[iL] at h
def QY {d:D}(h:isT d=v_):iL d=true:=by
 unfold isT at h;rw[uC,uC] at h;exact h.1.1
def KF {d:D}(h:isT d=v_):trD d=true:=Nl (QY h)
def ME:#[T,1,a.JI,a.Jv,["boxes","word","parts"],LI]:=by
 exists 9,T.lQ,Zf
 erw[h,d,t,w,B,ps,n,rfl,hB,hT,hw,U,hp,k];exists 3,%[#[qG,#[qr,Qq,pv 1,qj],%[|#[qp,#[yT,#[Cz,1,hr.units],#[Qt,pv 0,#[qI,qF,pv 2,qh]],#[Qt,pv 0,#[qI,qF,pv 2,qh]],qA _]]],qw],#[qG,#[qr,Qq,pv 1,qj],%[|#[qp,#[qy,#[qV,2,rfl],T.qT,uV,#v[#[Qt,pv 0,#[qI,qF,pv 2,qh]],#[Q1,.ty "tuple",T.Q8,vE]]]]],qw],#[qG,#[qr,Qq,pv 1,qj],%[|#[qp,#[yT,Qq,#[qy,Jm,T.yx,uK,#v[#[Qt,pv 0,#[qI,qF,pv 2,qh]]]],qh,qA _]]],qw]|#[qp,jw]]
 exists 0,1,0;simp![JMP,uG,uH,uO] at hw;rcases hw with rfl|rfl|rfl|rfl
 ·refine Qp () ?_
  exists 0,1,0,Qp () ?_
  exists 0,1,0,Qp () ?_
  exact k
 ·refine QG () ?_
  erw[OE (QR U ()),x,y,i,rfl,O,hy,_]
  exists 0,0
  try dsimp![tC]
  refine mZ (i:=0) hB hp rfl O λv Z=>?_
  exists 0,0
  try dsimp![tC]
  refine mZ (i:=1) hB hp rfl hy λu iu=>?_
  exists B x,B y,Z,iu,KF (hT x O),KF (hT y hy),?_,k
  ·have:=x9 (hT x O);omega
 ·refine Qp () ?_
  exists 0,1,0,QG () ?_
  erw[OD (QR U ()),x,i,rfl,O,_]
  exists 0,0;refine mZ (i:=0) hB hp rfl O λv Z=>?_;exact⟨v,"tuple",tyD (B x),X6 (B x),1,Z.ty,xn _,k⟩
 ·refine Qp () ?_
  exists 0,1,0,Qp () ?_
  exists 0,1,0,QG () ?_
  erw[OD (QR U ()),x,i,rfl,O,_]
  exists 0,0;refine mZ (i:=0) hB hp rfl O λv Z=>?_;have k':Q (.bl (decide (Ph (B x)=0))) H:=k;have hg:=hT x O;generalize B x=dx at Z k' hg⊢;have hn:∀n:Nat,decide (V.int (n:Int)=V.int 0)=decide (n=0):=λn=>by
   rw[uX];constructor
   ·intro h;injection h with h;omega
   ·rintro rfl;rfl
  cases dx with
  |str z=>
   erw[Z,rfl,hz];refine .inl ⟨z,1,hz,1,?_⟩;rw[hn];exact k'
  |tup xs=>
   erw[Z,r,rs,rfl,er,ir];refine .inr ⟨r,rs,1,.inr (SqT.of er),λ_=>[1:?_]⟩;rw[hn,↑ir];exact k'
  |_=>simp[isT,iL] at hg
def Ii:#[T,2,a.jS,a.jK,["word","held"],EJ]:=by
 have Q0:=#[zf,T];exists 9,T.lG,zj
 erw[h,w,v,d,rfl,hw,iv,k];exists 3,%[#[qG,#[qr,Qq,pv 0,qj],%[|#[qp,#[Q4,#[Qd,#[qy,#[qV,2,rfl],T.qT,uV,#v[pv 1,#[Q1,.ty "str",T.zn,Ut]]]],#[qB,#v[qj,#[qB,#v[qj,pv 1]]]],#[qB,#v[qj,qj]]]]],qw],#[qG,#[Qo,#[Qd,#[qu,Q0,hr.mono (),T.iH,#v[pv 1]]]],%[|#[qp,#[qB,#v[qj,qj]]]],qw]|#[qp,#[qB,#v[qj,#[qB,#v[#[Q4,#[qr,Qq,pv 0,qj],qj,qj],pv 1]]]]]]
 have two:(2:Nat)<=sizeLine:=by decide
 have st:∀{H:Hp} (z:Str),↑z<=100->Is H (.str z) (.str z):=λz hz=>[1:yr ()]
 have fl:∀(z:Str) (H:Hp) (l:o3),↑z<=100->H l=US->Is (upd H l (.tup [.str "fault",.str z])) (flt z) (.ref l):=λz H l hz U=>Is.new (ds:= [.str "fault",.str z]) ⟨_,0,st _ (),_,0,st _ hz,1⟩ U
 exists 0,1,0;by_cases c:w="names"
 ·subst c;refine QG () ?_
  have ea:oY "names" d=if isStr d=v_ then .tup [.str "asks",.tup [.str "names",d]] else flt "kind":=by unfold oY;rw[A6 rfl]
  rw[ea] at k
  exists 0,v,"str",tyD d,isStr d,1,iv.ty,jx _,0;cases hs:isStr d with
  |true=>
   rw[hs] at k;refine i9 [0:two:λl U=>[two:λZ O=>?_]];have t1:ic H (upd H l (.tup [.str "names",v])):=qf U _;refine k _ _ (t1.trans (qf O _)) ?_;exact Is.new (ds:= [.str "asks",.tup [.str "names",d]]) ⟨_,0,st _ (),_,0,Is.new (ds:= [.str "names",d]) ⟨_,0,st _ (),_,0,iv,1⟩ U,1⟩ O
  |false=>
   rw[hs] at k;exact iS [two:λl U=>k _ _ (qf U _) (fl "kind" H l () U)]
 ·refine Qp (uf λh=>c (by injection h)) ?_
  have ea:oY w d=if mx d=v_ then .tup [.str "asks",.tup [.str (if w="ask" then "thing" else "has"),d]] else flt "name":=by unfold oY;rw[A4 c]
  rw[ea] at k
  exists 0,v,d,1,iv,λH1 s1=>[0:?_];cases hs:mx d with
  |false=>
   rw[hs] at k;exact i9 [two:λl U=>k _ _ (s1.trans (qf U _)) (fl "name" H1 l () U)]
  |true=>
   rw[hs] at k;refine iS ⟨0,1,0,?_⟩;have aa:∀z:Str,↑z<=100->z=(if w="ask" then("thing":Str) else "has")->∀l,H1 l=US->∀Z,(upd H1 l (.tup [.str z,v])) Z=US->Q (.ref Z) (upd (upd H1 l (.tup [.str z,v])) Z (.tup [.str "asks",.ref l])):=by
    intro z hz ez l U Z O;have t1:ic H1 (upd H1 l (.tup [.str z,v])):=qf U _;refine k _ _ (s1.trans (t1.trans (qf O _))) ?_;rw[<-ez];exact Is.new (ds:= [.str "asks",.tup [.str z,d]]) ⟨_,0,st _ (),_,0,Is.new (ds:= [.str z,d]) ⟨_,0,st _ hz,_,0,iv.mono s1.tk,1⟩ U,1⟩ O
   refine lI (λc2=>?_) (λc2=>?_)
   ·have e:w="ask":=by have:=uu c2;injection this
    exact⟨0,two,λl U=>⟨two,λZ O=>aa "thing" () (by rw[A6 e]) l U Z O⟩⟩
   ·have e:w≠"ask":=λe=>c2 (ud (by rw[e]))
    exact⟨0,two,λl U=>⟨two,λZ O=>aa "has" () (by rw[A4 e]) l U Z O⟩⟩
end
structure Mc where
 (x db dg:o3)
 rs:oj Rw
 own:Str
structure Rn where
 B:Str->D
 p:Int
 n:Nat
 gs:oj D
 th:D
nonrec def MTH:oj Str:= ["now","answer","asked","lines","copy","go_on","is_waiting","do_row","hold"]
structure Fl (fs:oj (Str×V))(rv ru:V)(own:Str)(db dg:o3)(place:Int)(done:Nat)(tv:V):Prop where
 rows:fs.lookup ("rows":Str)=u_ rv
 rule:fs.lookup ("rule":Str)=u_ ru
 own:fs.lookup ("own":Str)=u_ (.str own)
 boxes:fs.lookup ("boxes":Str)=u_ (.ref db)
 place:fs.lookup ("place":Str)=u_ (.int place)
 done:fs.lookup ("done":Str)=u_ (.int (done:Int))
 given:fs.lookup ("given":Str)=u_ (.ref dg)
 there:fs.lookup ("there":Str)=u_ tv
 meth:∀m∈MTH,fs.lookup m=US
 len:↑fs<=20
def YR {f:Str}{v:V}:∀{fs:oj (Str×V)}{u:V},fs.lookup f=u_ u->↑(iB f v fs)=↑fs
 |(g,x)::r,u,h=>by
  unfold iB;by_cases c:g=f
  ·rw[A6 c];rfl
  ·rw[A4 c,um,um];have e:(f==g)=false:=by simp;exact λz=>c z.symm
   rw[ve,e] at h;rw[YR (u:=u) h]
 | [],u,h=>by simp at h
section
variable {fs:oj (Str×V)}{rv ru:V}{own:Str}{db dg:o3}{place:Int}{done:Nat}{tv:V}
def Fl.set_there {u:V}(h:Fl fs rv ru own db dg place done tv):Fl (iB "there" (u) fs) rv ru own db dg place done u:=by
 refine⟨?_,?_,?_,?_,?_,?_,?_,?_,λm hm=>?_,by rw[YR h.there];exact h.len⟩
 all_goals rw[qJ]
 all_goals first|rw[A6 rfl]|(rw[A4 ()];first|exact h.rows|exact h.rule|exact h.own|exact h.boxes|exact h.place|exact h.done|exact h.given|exact h.there)|(rw[A4 (λe=>by subst e;revert hm;decide+kernel)];exact h.meth m hm)
def Fl.set_place {q:Int}(h:Fl fs rv ru own db dg place done tv):Fl (iB "place" (.int q) fs) rv ru own db dg q done tv:=by
 refine⟨?_,?_,?_,?_,?_,?_,?_,?_,λm hm=>?_,by rw[YR h.place];exact h.len⟩
 all_goals rw[qJ]
 all_goals first|rw[A6 rfl]|(rw[A4 ()];first|exact h.rows|exact h.rule|exact h.own|exact h.boxes|exact h.place|exact h.done|exact h.given|exact h.there)|(rw[A4 (λe=>by subst e;revert hm;decide+kernel)];exact h.meth m hm)
def Fl.set_done {k:Nat}(h:Fl fs rv ru own db dg place done tv):Fl (iB "done" (.int ((k:Nat):Int)) fs) rv ru own db dg place k tv:=by
 refine⟨?_,?_,?_,?_,?_,?_,?_,?_,λm hm=>?_,by rw[YR h.done];exact h.len⟩
 all_goals rw[qJ]
 all_goals first|rw[A6 rfl]|(rw[A4 ()];first|exact h.rows|exact h.rule|exact h.own|exact h.boxes|exact h.place|exact h.done|exact h.given|exact h.there)|(rw[A4 (λe=>by subst e;revert hm;decide+kernel)];exact h.meth m hm)
end
nonrec def yd (C:o3)(H:Hp)(m:Mc)(r:Rn):Prop:=
 ∃(dx:o3) (fs:oj (Str×V)) (rv ru tv:V) (gv:oj V),H m.x=u_ (.ins C dx fs)/\Fl fs rv ru m.own m.db m.dg r.p r.n tv/\Is H (.tup (m.rs.map rowD)) rv/\Is H (Yp m.rs) ru/\Ys H m.db r.B/\H m.dg=u_ (.lst gv)/\L2.IsL H r.gs gv/\Is H r.th tv
structure Mv (m:Mc)(H H':Hp):Prop where
 kept:∀b o,H b=u_ o->b≠m.x->b≠m.db->b≠m.dg->H' b=u_ o
 tk:Tk H H'
def Mv.refl (m:Mc)(H:Hp):Mv m H H:=[λ_ _ e _ _ _=>e:Tk.refl H]
variable {H H1 H2:Hp}
def Mv.trans {m:Mc}(h:Mv m H H1)(h2:Mv m H1 H2):Mv m H H2:=[λb o e n1 O U=>h2.kept b o (h.kept b o e n1 O U) n1 O U:h.tk.trans h2.tk]
variable {H':Hp}
def Mv.of {m:Mc}(s:ic H H'):Mv m H H':=[λb o e _ _ _=>s b o e:s.tk]
variable {C:o3}
def yd.same {m:Mc}{r:Rn}(h:yd C H m r)(s:ic H H'):yd C H' m r:=
 let⟨dx,fs,rv,ru,tv,gv,e,f,i,j,b,g,gl,t⟩:=h;⟨dx,fs,rv,ru,tv,gv,s _ _ e,f,i.mono s.tk,j.mono s.tk,b.same s,s _ _ g,gl.mono s.tk,t.mono s.tk⟩
variable {dx:o3}
def Ys.ne {x db:o3}{fs:oj (Str×V)}{B:Str->D}(e:H x=u_ (.ins C dx fs))(h:Ys H db B):db≠x:=λz=>by
 erw[h,f,O,_];rw[z,e] at O;cases O
variable {fs':oj (Str×V)}{rv:V}
def yh {m:Mc}{r:Rn}{fs:oj (Str×V)}{ru tv:V}{O:oj V}(e:H m.x=u_ (.ins C dx fs))(f:Fl fs' rv ru m.own m.db m.dg r.p r.n tv)(i:Is H (.tup (m.rs.map rowD)) rv)(j:Is H (Yp m.rs) ru)(b:Ys H m.db r.B)(U:H m.dg=u_ (.lst O))(Z:L2.IsL H r.gs O)(t:Is H r.th tv):
  yd C (upd H m.x (.ins C dx fs')) m r/\Mv m H (upd H m.x (.ins C dx fs')):=by
 have tk:Tk H (upd H m.x (.ins C dx fs')):=Tk.updI e;have n1:m.db≠m.x:=Ys.ne e b;have n2:m.dg≠m.x:=λz=>by rw[z,e] at U;cases U
 exact⟨⟨dx,fs',rv,ru,tv,O,qg,f,i.mono tk,j.mono tk,b.move tk (qk n1),by rwa[qk n2],Z.mono tk,t.mono tk⟩,⟨λc o h a1 _ _=>by rwa[qk a1],tk⟩⟩
nonrec def QJ:D->Bool
 | .tup (.str w::_)=>decide (w="asks")
 |_=>UT
nonrec def Th (d:D):Prop:=d= .non∨∃w e,d= .tup [.str w,e]
inductive Out where
 |go (B:Str->D)(p:Int)|stop (e:D)
nonrec def Out.B (B:Str->D):Out->Str->D
 | .go B' _=>B'
 | .stop _=>B
nonrec def Out.P (p:Int):Out->Int
 | .go _ p'=>p'
 | .stop _=>p
nonrec def Out.T:Out->D
 | .go _ _=> .non
 | .stop e=>e
nonrec def p9 (B:Str->D)(z:Str)(e:D)(p:Int):Out:=match e with
 | .non=> .stop (flt "kind")
 |e=>if isT e=v_ then .go (sT B z e) (p+1) else .stop (flt "big")
inductive Ov (C:Addr):Sp
 |mk (m:Mc)(r:Rn)(_:vs= [.ref m.x])(_:yd C H m r)(_:∀v,Is H r.th v->Q v H)
inductive LS (C:Addr):Sp
 |mk (m:Mc)(r:Rn)(_:vs= [.ref m.x])(_:yd C H m r)(_:∀v H',ic H H'->Is H' (.tup r.gs) v->Q v H')
inductive Lq (C:Addr):Sp
 |mk (m:Mc)(r:Rn)(_:vs= [.ref m.x])(_:yd C H m r)(_:Th r.th)(_:Q (.bl (QJ r.th)) H)
inductive LK (C:Addr):Sp
 |mk (m:Mc)(r:Rn)(z:Str)(v:V)(e:D)(_:vs= [.ref m.x,.str z,v])(_:yd C H m r)(_:r.th= .non)(_:z∈BX)(_:Is H e v)(_:∀H',Mv m H H'->yd C H' m ⟨(p9 r.B z e r.p).B r.B,(p9 r.B z e r.p).P r.p,r.n,r.gs,(p9 r.B z e r.p).T⟩->Q .non H')
section
variable {P:o9}{w:og}{K:o0}{mg:Str->om o6}{base:o8}{a:Ad}{g:Ga}
def CN:#[T,1,a.xU,a.Xe,["self"],(Ov a.qm)]:=by
 exists 9,T.iy,wO,O
 erw[h,m,r,rfl,[dx,fs,rv,ru,tv,U,e,f,Z,iu,ib,hg,gl,it],k];exists 3,%[|#[qp,#[qO,5,pv 0,rfl]]]
 exact⟨0,m.x,_,dx,fs,tv,1,e,T.qt,T.qM,f.there,k _ it⟩
def CU:#[T,1,a.Jk,a.Jt,["self"],(LS a.qm)]:=by
 exists 9,T.iD,Zi
 erw[h,m,r,rfl,[dx,fs,rv,ru,tv,U,e,f,ir,iu,ib,Z,gl,it],k];exists 3,%[|#[qp,#[Ql,Qn,T.Q8,vE,#v[#[qO,5,pv 0,rfl]]]]]
 exact⟨0,m.x,_,dx,fs,0,e,T.qt,T.YF,f.given,m.dg,U,1,.inl [SqL.of Z:λl O=>k _ _ (qf O _) (Is.new gl O)]⟩
def pO:#[T,1,a.Yn,a.Ym,["self"],(Lq a.qm)]:=by
 exists 9,T.il,Jf
 erw[h,m,[B,p,n,gs,th],rfl,[dx,fs,rv,ru,tv,gv,e,f,ir,Z,ib,hg,gl,it],O,k];simp only at f ib gl it O k;exists 3,%[|#[qp,#[pe_and,#[yT,W8,#[qO,5,pv 0,rfl],qP,qA _],#[Wv,#[yT,Qq,#[qI,Jl,#[qO,5,pv 0,rfl],qh],qj,qA _]]]]]
 exists 0,m.x,_,dx,fs,tv,1,e,T.qt,T.qM,f.there,1;rcases O with rfl|⟨w1,e1,rfl⟩
 ·cases(show tv= .non from it)
  exact[0:Qp () k]
 ·have U:=it;erw[U,t0,us,rfl,et,Z]
  exists 0,QG (by simp) ⟨0,m.x,_,dx,fs,0,e,T.qt,T.qM,f.there,?_⟩
  refine .inr (.inl (xy (i:=0) (d:= .str w1) it (qU (j:=0) rfl) λq hq=>?_));erw[hq,rfl,_]
  exists 1;have ew:decide (V.str w1=V.str ("asks":Str))=decide (w1="asks"):=by
   rw[uX];exact⟨λh=>by injection h,λh=>by rw[h]⟩
  rw[ew];exact k
def MH:#[T,3,a.J1,a.J4,["self","box","tree"],(LK a.qm)]:=by
 have yE:=#[jk,T];exists 9,T.lT,ZW
 erw[h,m,[B,p,n,gs,th],z,v,d,rfl,[dx,fs,rv,ru,tv,gv,e,f,ir,iu,ib,hg,gl,it],aa,hz,O,k];simp only at f ib gl it aa k;subst aa;exists 3,%[|#[qG,#[qr,yL,pv 2,qP],%[|#[Qc,#[qB,#v[qj,qj]]]],%[|#[qG,#[Qo,#[Qd,#[qu,yE,hr.mono (),T.iV,#v[pv 2]]]],%[|#[Qc,#[qB,#v[qj,qj]]]],%[#[Jp,#[qO,5,pv 0,rfl],pv 1,pv 2]|#[JB,10,pv 0,qh,oB]]]]]]
 have two:(2:Nat)<=sizeLine:=by decide
 have st:∀{H:Hp} (z:Str),↑z<=100->Is H (.str z) (.str z):=λz hz=>[1:yr ()]
 have fl:∀(z:Str) (H:Hp) (l:o3),↑z<=100->H l=US->Is (upd H l (.tup [.str "fault",.str z])) (flt z) (.ref l):=λz H l hz U=>Is.new (ds:= [.str "fault",.str z]) ⟨_,0,st _ (),_,0,st _ hz,1⟩ U
 exists 0,1,0;have Z:↑fs<1000:=by have:=f.len;omega
 by_cases c:d= .non
 ·subst c;cases(show v= .non from O)
  refine QG () [two:λl U=>?_]
  have s1:ic H (upd H l (.tup [.str "fault",.str "kind"])):=qf U _
  exists 0,m.x,_,dx,fs,1,s1 _ _ e,T.qt,T.qM,Z;erw[yh (r:=⟨B,p,n,gs,flt "kind"⟩) (s1 _ _ e) (f.set_there (u:= .ref l)) (ir.mono s1.tk) (iu.mono s1.tk) (ib.same s1) (s1 _ _ hg) (gl.mono s1.tk) (fl "kind" H l () U),m1,m2]
  exact k _ ((Mv.of s1).trans m2) m1
 ·have hv:v≠ .non:=by
   rintro rfl;cases d with
   |non=>exact c rfl
   |bl b=>cases(show V.non= .bl b from O)
   |int i=>cases(show V.non= .int i from O)
   |str z=>erw[O,h,_];cases h
   |lst=>erw[O,_,_,h,_];cases h
   |dct=>erw[O,_,_,h,_];cases h
   |tup xs=>erw[O,_,_,h,_];cases h
  have eo:p9 B z d p=if isT d=v_ then .go (sT B z d) (p+1) else .stop (flt "big"):=by
   cases d with
   |non=>exact A8 rfl c
   |_=>rfl
  rw[eo] at k;refine Qp (uf hv) ?_
  exists 0,v,d,1,O,λH1 s1=>[0:?_];cases ht:isT d with
  |false=>
   rw[ht] at k;refine i9 [two:λl U=>?_];have s2:ic H (upd H1 l (.tup [.str "fault",.str "big"])):=s1.trans (qf U _)
   exists 0,m.x,_,dx,fs,1,s2 _ _ e,T.qt,T.qM,Z;erw[yh (r:=⟨B,p,n,gs,flt "big"⟩) (s2 _ _ e) (f.set_there (u:= .ref l)) (ir.mono s2.tk) (iu.mono s2.tk) (ib.same s2) (s2 _ _ hg) (gl.mono s2.tk) (fl "big" H1 l () U),m1,m2]
   exact k _ ((Mv.of s2).trans m2) m1
  |true=>
   rw[ht] at k;refine iS ?_;have ad:=O.mono s1.tk;erw[(ib.same s1).put hz ad,kvs,ac,ae,t2];have n1:m.db≠m.x:=Ys.ne e ib;have n3:m.dg≠m.db:=λz=>by
    erw[ib,ff,e2,_];rw[z,e2] at hg;cases hg
   have e1:=s1 _ _ e;have e3:(upd H1 m.db (.dK kvs)) m.x=u_ (.ins a.qm dx fs):=by rwa[qk n1.symm]
   exists 0,0,m.x,_,dx,fs,0,e1,T.qt,T.Qv,f.boxes,0,m.db,0,ac
   exists 0,m.x,_,dx,fs,0,e3,T.qt,T.Qi,f.place,p,(1),1,1,dx,fs,e3,Z;obtain⟨m1,m2⟩:=yh (r:=⟨sT B z d,p+1,n,gs,.non⟩) e3 (f.set_place (q:=p+1)) ((ir.mono s1.tk).mono t2) ((iu.mono s1.tk).mono t2) ae (by rw[qk n3];exact s1 _ _ hg) ((gl.mono s1.tk).mono t2) it
   exact k _ ((Mv.of s1).trans (Mv.trans ⟨λb o h _ a2 _=>by rwa[qk a2],t2⟩ m2)) m1
nonrec def MKR:oj Str:= ["text","self","copy","row","put","join","first","rest","size","cut","glue"]
nonrec def oo (ps:oj Pt):Int:=match ps.getLast? with
 |some (.n i)=>i
 |_=>0
nonrec def mo (own:Str)(r:Rw)(B:Str->D)(p:Int):Out:=
 if r.1∈MKR then p9 B (b0 r.2) (made r.1 B own r.2) p else if r.1∈ASK then .stop (oY r.1 (B (b1 r.2))) else if r.1="say" then .stop (.tup [.str "said",B (b0 r.2)]) else
 if r.1="fault" then .stop (flt "told") else if KC r.1 B r.2=v_ then .go B (oo r.2) else .go B (p+1)
def Pz:∀x∈FRM,x.1∈MKR->x.2.head? =u_ .box:=by decide+kernel
def ZK:∀x∈FRM,x.1∈ASK->x.1∉MKR/\x.1∈RT/\x.2= [.box,.box]:=by decide+kernel
def sj:∀x∈FRM,x.1="say"->x.2= [.box]:=by decide+kernel
def DE:∀x∈FRM,x.1∈MKR∨(x.1∉MKR/\x.1∈RT/\(x.1∈ASK∨x.1∉ASK/\(x.1="say"∨x.1="fault"∨x.1≠"say"/\x.1≠"fault"/\x.1∈JMP))):=by decide+kernel
def Nq:∀x∈FRM,x.1∈JMP->x.2.getLast? =u_ .line:=by decide+kernel
variable {r:Rw}
def Aab {m:Nat}(h:jU n m r)(U:r.1∈MKR):∃z ps,r.2= .s z::ps/\z∈BX:=by
 erw[h,ks,Z,O];have:=Pz _ Z U
 match ks,O,this with
 | .box::ks,O,_=>
  match h2:r.2,O with
  | .s z::ps,O=>exact⟨z,ps,1,O.1⟩
  | .n _::_,O=>exact O.1.elim
def Wb {n m:Nat}:∀{ks:oj Kd}{ps:oj Pt},xO n m ks ps->ks.getLast? =u_ .line->∃qs i,ps=qs++ [.n i]/\1<=i/\i<=(n:Int)
 | [k],[p],h,e=>by
  cases e;cases p with
  |n i=>exact⟨[],i,1,h.1⟩
  |s z=>exact h.1.elim
 |k::k2::ks,p::p2::ps,h,e=>by
  rw[UG] at e;erw[Wb (ks:=k2::ks) (ps:=p2::ps) h.2 e,qs,i,O,hi];exact⟨p::qs,i,by rw[O];rfl,hi⟩
 | [k],p::_::_,h,_=>h.2.elim
 |k::_::_,[p],h,_=>h.2.elim
 | [],[],_,e=>by cases e
 | [],_::_,h,_=>h.elim
 |_::_,[],h,_=>h.elim
def Av {m:Nat}(h:jU n m r)(O:r.1∈JMP):∃qs i,r.2=qs++ [.n i]/\1<=i/\i<=(n:Int)/\oo r.2=i:=by
 erw[h,ks,U,Z];erw[Wb Z (Nq _ U O),qs,i,e,h1,h2];exists qs,i,e,h1,h2;unfold oo;rw[e,List.getLast?_concat]
inductive EG (C:Addr):Sp
 |mk (m:Mc)(r:Rn)(rw:Rw)(v:V)(k:Nat)(_:vs= [.ref m.x,v])(_:yd C H m r)(_:r.th= .non)(_:Tr r.B)(_:↑m.own<=100)(_:jU k 300 rw)(_:Is H (rowD rw) v)(_:∀H',Mv m H H'->yd C H' m ⟨(mo m.own rw r.B r.p).B r.B,(mo m.own rw r.B r.p).P r.p,r.n,r.gs,(mo m.own rw r.B r.p).T⟩->Q .non H')
variable {x:Str}
def Aaa (T:Tx K mg a)(C:Fx K w mg g a)(h:x∈MKR):∃f fd,PySem.W.nsIn K g.makers x=u_ (u_ (.ref f))/\FnOk P w K mg base CX0 1 f fd ["boxes","own","parts"] (Xi x)/\zi K fd ["boxes","own","parts"] []/\PySem.W.keepIn K (.ref f)=true:=by
 simp![MKR,uG,uH,uO] at h;rcases h with rfl|rfl|rfl|rfl|rfl|rfl|rfl|rfl|rfl|rfl|rfl
 ·exact⟨_,_,C.k_text,Mq T,T.jB.b,T.jB.F.kp⟩
 ·exact⟨_,_,C.k_self,Mt T,T.lc.b,T.lc.F.kp⟩
 ·exact⟨_,_,C.k_copy,ML T,T.lp.b,T.lp.F.kp⟩
 ·exact⟨_,_,C.k_row,O1 T,T.lJ.b,T.lJ.F.kp⟩
 ·exact⟨_,_,C.k_put,O2 T,T.lL.b,T.lL.F.kp⟩
 ·exact⟨_,_,C.k_join,MF T,T.lj.b,T.lj.F.kp⟩
 ·exact⟨_,_,C.k_first,Ic T,T.iT.b,T.iT.F.kp⟩
 ·exact⟨_,_,C.k_rest,Mx T,T.lf.b,T.lf.F.kp⟩
 ·exact⟨_,_,C.k_size,Ms T,T.ky.b,T.ky.F.kp⟩
 ·exact⟨_,_,C.k_cut,O5 T,T.lN.b,T.lN.F.kp⟩
 ·exact⟨_,_,C.k_glue,MI T,T.lm.b,T.lm.F.kp⟩
def Ig:#[C,4,a.jL,a.jI,["self","row"],(EG a.qm)]:=by
 have ZF:=#[ME,T];have Zc:=#[Ii,T];have wX:=#[MH,T];exists 9,T.lH,yU
 erw[h,m,[B,p,n,gs,th],r,v,nn,rfl,M,af,hT,ho,ad,iv,k];simp only at af hT k;subst af;exists 3,%[#[qC,(2),yU.nd,#[qI,qF,pv 1,qh]],#[qC,(3),yU.nd,#[qI,qF,pv 1,qh]]|#[qG,#[qr,8,OY,pv 2,#[pe_gR,C.m_MAKERS],#[w]],%[|#[qZ,#[Qg,pv 0,T.qt,T.lT,wX,#v[#[qI,qF,pv 3,qh],#[EU,9,(1),5,⟨1,1,1,1,1⟩,#[qI,AaS,#[pe_gR,C.m_MAKERS],pv 2],hr.mono (),#v[#[qO,5,pv 0,rfl],#[qO,5,pv 0,rfl],pv 3],_,_]]]]],%[|#[qG,#[qr,8,QT,pv 2,#[pe_gR,C.m_ASKING],#[w]],%[|#[Qc,#[qu,Zc,hr.mono (),T.lG,#v[pv 2,#[Qt,#[qO,5,pv 0,rfl],#[qI,qF,pv 3,qh]]]]]],%[|#[qG,#[qr,Qq,pv 2,qj],%[|#[Qc,#[qB,#v[qj,#[Qt,#[qO,5,pv 0,rfl],#[qI,qF,pv 3,qh]]]]]],%[|#[qG,#[qr,Qq,pv 2,qj],%[|#[Qc,#[qB,#v[qj,qj]]]],%[|#[qG,#[Qd,#[qu,ZF,hr.mono (),T.lQ,#v[#[qO,5,pv 0,rfl],pv 2,pv 3]]],%[|#[Qc,#[qI,qF,pv 3,#[OR,6,IV,qh]]]],%[|#[JB,10,pv 0,qh,oB]]]]]]]]]]]]
 have two:(2:Nat)<=sizeLine:=by decide
 erw[r,U,ps];erw[iv,t0,us,rfl,et,iu];erw[iu,v1,u1,rfl,[rfl,aq],v2,u2,rfl,i2,e2];cases(show u2= [] from e2)
 exists 0,t0,_,(0),0,1,SqT.of et,1
 exists 0,t0,_,(1),0,1,SqT.of et,1;erw[id i2,t1,au,rfl,aw,ax];have ac:Ed H t1 ps:=i2;have al:=ad;erw[al,ks,hk,hp];have hM:=M;erw[hM,dx,fs,rv,ru,tv,gv,e,f,ir,ij,ib,hg,gl,it];simp only at f ib gl it;have ae:↑fs<1000:=by have:=f.len;omega
 rcases DE _ hk with Z|⟨Z,am,aa⟩
 ·erw[Aaa (P:=P) (base:=base) T C Z,fa,fd,hn,hF,hb,ao];erw[Aab ad Z,z,qs,rfl,ap];have eo:mo m.own (U,.s z::qs) B p=p9 B z (made U B m.own (.s z::qs)) p:=by unfold mo;rw[A6 Z];rfl
  rw[eo] at k
  exists 0,U,g.makers,0,1,C.km,hn,0;refine i9 ?_
  exists 0,m.x,dx,fs,1,e,f.meth _ (),0
  try dsimp![tC]
  refine D9 (i:=0) ac rfl ?_
  exists 0,U,g.makers,_,.ref fa,1,1,C.km,hn,1,fa,fd,_,Xi U,1,hF,hb,ao
  exists 0,m.x,_,dx,fs,0,e,T.qt,T.Qv,f.boxes,0,m.x,_,dx,fs,0,e,T.qt,T.XI,f.own,0
  exists m.db,t1,m.own,B,.s z::qs,nn,1,ib,hT,ho,ad,ac,λv H1 s1 hv=>?_;exact⟨m,⟨B,p,n,gs,.non⟩,z,v,0,M.same s1,1,ap,hv,λH2 m2 M2=>k H2 ((Mv.of s1).trans m2) M2⟩
 ·exists 0,U,g.makers,0,1,C.km,C.k_no _ am,0;refine iS ?_
  exists 0,g.asking,0,.inr (C.asking _),1,1,0;have ei:inV (.str U) [.str "ask",.str "has",.str "names"]=decide (U∈ASK):=zk (z:=U) (l:=ASK);rw[A4 uc,ei];rcases aa with O|⟨O,aa⟩
  ·refine QG (ud O) ?_;erw[ZK _ hk O,_,_,ek];simp only at ek;subst ek;erw[Z0 hp,z0,z1,rfl,h0,h1];have eo:mo m.own (U,[.s z0,.s z1]) B p= .stop (oY U (B z1)):=by unfold mo;rw[A4 Z,A6 O];rfl
   rw[eo] at k
   exists 0,0,m.x,_,dx,fs,0,e,T.qt,T.Qv,f.boxes,0
   try dsimp![tC]
   refine mZ (i:=1) ib ac rfl h1 λv hv=>?_
   exists U,v,B z1,1,O,hv,λu H1 s1 hu=>?_
   exists 0,m.x,_,dx,fs,1,s1 _ _ e,T.qt,T.qM,ae;erw[yh (r:=⟨B,p,n,gs,oY U (B z1)⟩) (s1 _ _ e) (f.set_there (u:=u)) (ir.mono s1.tk) (ij.mono s1.tk) (ib.same s1) (s1 _ _ hg) (gl.mono s1.tk) hu,m1,m2];exact k _ ((Mv.of s1).trans m2) m1
  ·refine Qp (uf O) ?_
   exists 0,1,0;have es:∀y:Str,decide (V.str U=V.str y)=decide (U=y):=λy=>by
    rw[uX];exact⟨λh=>by injection h,λh=>by rw[h]⟩
   rcases aa with rfl|rfl|⟨hs,hf,hj⟩
   ·refine QG (ud rfl) ?_;have ek:=sj _ hk rfl;simp only at ek;subst ek;erw[SR hp,z0,rfl,h0];have eo:mo m.own ("say",[.s z0]) B p= .stop (.tup [.str "said",B z0]):=by unfold mo;rw[A4 Z,A4 O,A6 rfl];rfl
    rw[eo] at k
    exists 0,m.x,_,dx,fs,0,e,T.qt,T.Qv,f.boxes,0
    try dsimp![tC]
    refine mZ (i:=0) ib ac rfl h0 λv hv=>?_
    exists two,λl hl=>?_;have s1:ic H (upd H l (.tup [.str "said",v])):=qf hl _
    exists 0,m.x,_,dx,fs,1,s1 _ _ e,T.qt,T.qM,ae;erw[yh (r:=⟨B,p,n,gs,.tup [.str "said",B z0]⟩) (s1 _ _ e) (f.set_there (u:= .ref l)) (ir.mono s1.tk) (ij.mono s1.tk) (ib.same s1) (s1 _ _ hg) (gl.mono s1.tk) (Is.new (ds:= [.str "said",B z0]) ⟨_,0,[1:yr ()],_,0,hv,1⟩ hl),m1,m2]
    exact k _ ((Mv.of s1).trans m2) m1
   ·have ag:¬(("fault":Str)="say"):=by decide+kernel
    refine Qp (uf λh=>ag (by injection h)) ?_
    exists 0,1,0,QG (ud rfl) ?_;have eo:mo m.own ("fault",ps) B p= .stop (flt "told"):=by unfold mo;rw[A4 Z,A4 O,A4 ag,A6 rfl]
    rw[eo] at k
    exists two,λl hl=>?_;have s1:ic H (upd H l (.tup [.str "fault",.str "told"])):=qf hl _
    exists 0,m.x,_,dx,fs,1,s1 _ _ e,T.qt,T.qM,ae;erw[yh (r:=⟨B,p,n,gs,flt "told"⟩) (s1 _ _ e) (f.set_there (u:= .ref l)) (ir.mono s1.tk) (ij.mono s1.tk) (ib.same s1) (s1 _ _ hg) (gl.mono s1.tk) (Is.new (ds:= [.str "fault",.str "told"]) ⟨_,0,[1:yr ()],_,0,[1:yr ()],1⟩ hl),m1,m2]
    exact k _ ((Mv.of s1).trans m2) m1
   ·refine Qp (by rw[es];exact uf hs) ?_
    exists 0,1,0,Qp (by rw[es];exact uf hf) ?_
    have eo:mo m.own (U,ps) B p=if KC U B ps=v_ then .go B (oo ps) else .go B (p+1):=by unfold mo;rw[A4 Z,A4 O,A4 hs,A4 hf]
    rw[eo] at k;erw[Av ad hj,qs,i,ah,h1,h2,hl];simp only at ah hl
    exists 0,m.x,_,dx,fs,0,e,T.qt,T.Qv,f.boxes,0,0,m.db,t1,U,B,ps,nn,1,ib,hT,hj,ad,ac,0;cases ak:KC U B ps with
    |true=>
     rw[ak] at k;refine i9 ⟨0,(1),1,?_⟩;refine xy (i:= -1) (d:= .int i) ac (by rw[ah,uz];exact kP _ _) λq hq=>?_
     cases(show q= .int i from hq)
     exists 0,m.x,_,dx,fs,1,e,T.qt,T.Qi,ae;erw[yh (r:=⟨B,i,n,gs,.non⟩) e (f.set_place (q:=i)) ir ij ib hg gl it,m1,m2];refine k _ m2 ?_;show yd _ _ _ ⟨B,oo ps,n,gs,.non⟩;rwa[hl]
    |false=>
     rw[ak] at k;refine iS ⟨0,m.x,_,dx,fs,0,e,T.qt,T.Qi,f.place,p,(1),1,1,dx,fs,e,ae,?_⟩;erw[yh (r:=⟨B,p+1,n,gs,.non⟩) e (f.set_place (q:=p+1)) ir ij ib hg gl it,m1,m2];exact k _ m2 m1
nonrec def jT (rs:oj Rw)(p:Int):Rw:=rs.getD (p.toNat-1) ("fault",[])
nonrec def mw (rs:oj Rw)(own:Str)(gs:oj D):Nat->(Str->D)->Int->Nat->Rn
 |0,B,p,n=>⟨B,p,n,gs,if p>↑rs then flt "silent" else flt "long"⟩
 |f+1,B,p,n=>if p>↑rs then⟨B,p,n,gs,flt "silent"⟩ else match mo own (jT rs p) B p with
  | .go B' p'=>mw rs own gs f B' p' (n+1)
  | .stop e=>⟨B,p,if QJ e=v_ then n else n+1,gs,e⟩
variable {rs:oj Rw}
def Ch {p:Int}(h1:1<=p)(h2:p<=↑rs):rs[p.toNat-1]? =u_ (jT rs p):=by
 unfold jT;have h:p.toNat-1<↑rs:=by omega
 simp[Vx,h]
def ke {p:Int}(h1:1<=p)(h2:p<=↑rs):jT rs p∈rs:=vi (Ch h1 h2)
variable {e:D}
def Kc {B:Str->D}(h:Tr B)(O:isT e=v_):Tr (sT B z e):=λy U=>by
 unfold sT;by_cases c:y=z
 ·rwa[A6 c]
 ·rw[A4 c];exact h y U
nonrec def NM (n:Int):Out->Prop
 | .go B p=>Tr B/\1<=p/\p<=n+1
 | .stop e=>∃w d,e= .tup [.str w,d]
def ID {B:Str->D}{p n:Int}(h:Tr B)(h1:1<=p)(h2:p<=n):NM n (p9 B z e p):=by
 have O:NM n (if isT e=v_ then .go (sT B z e) (p+1) else .stop (flt "big")):=by
  by_cases c:isT e=v_
  ·rw[A6 c];exact[Kc h c:():()]
  ·rw[A4 c];exact[_:0]
 cases e with
 |non=>exact[_:0]
 |_=>exact O
def ND (w:Str)(d:D):∃u e,oY w d= .tup [.str u,e]:=by
 unfold oY;split
 ·split
  ·exact[_:0]
  ·exact[_:0]
 ·split
  ·exact[_:0]
  ·exact[_:0]
variable {own:Str}
def pF {B:Str->D}{p:Int}(hr:jU n 300 r)(h:Tr B)(h1:1<=p)(h2:p<=n):NM n (mo own r B p):=by
 unfold mo;by_cases O:r.1∈MKR
 ·rw[A6 O];exact ID h h1 h2
 rw[A4 O];by_cases U:r.1∈ASK
 ·rw[A6 U];exact ND _ _
 rw[A4 U];by_cases Z:r.1="say"
 ·rw[A6 Z];exact[_:0]
 rw[A4 Z];by_cases c4:r.1="fault"
 ·rw[A6 c4];exact[_:0]
 rw[A4 c4];by_cases c5:KC r.1 B r.2=v_
 ·rw[A6 c5];erw[id hr,ks,hk,hp];have hj:r.1∈JMP:=by
   rcases DE _ hk with q|⟨_,_,q|⟨_,q|q|q⟩⟩
   ·exact A8 q O
   ·exact A8 q U
   ·exact A8 q Z
   ·exact A8 q c4
   ·exact q.2.2
  erw[Av hr hj,qs,i,_,a1,a2,a3];exact⟨h,by rwa[a3],by rw[a3];omega⟩
 ·rw[A4 c5];exact[h:():()]
inductive LL (C:Addr):Sp
 |mk (m:Mc)(r:Rn)(_:vs= [.ref m.x])(_:yd C H m r)(_:r.th= .non)(_:Tr r.B)(_:↑m.own<=100)(_:ya m.rs)(_:1<=r.p)(_:r.p<=↑m.rs+1)(_:r.n<=300)(_:∀(H':Hp),Mv m H H'->yd C H' m (mw m.rs m.own r.gs (300-r.n) r.B r.p r.n)->Q .non H')
def CT:#[C,5,a.Jn,a.Jg,["self"],(LL a.qm)]:=by
 have Zh:=#[Ig,T,C];have Qm:=#[pO,T];exists 9,T.iN,Za
 erw[h,[x,db,dg,rs,own],[B0,p0,n0,gs,th],rfl,M0,aw,ax,ho,hR,aE,ay,aF,k];simp only at aw ax ho hR aE ay aF k;subst aw;exists 3,%[|#[xZ,#[qr,yL,#[qO,5,pv 0,rfl],qP],%[|#[qG,#[qr,pK,#[qO,5,pv 0,rfl],#[qy,qN,T.yx,uK,#v[#[qO,5,pv 0,rfl]]]],%[|#[Qc,#[qB,#v[qj,qj]]]],%[|#[qG,#[qr,Qq,#[qO,5,pv 0,rfl],#[kJ,T.m_MOST_DONE]],%[|#[Qc,#[qB,#v[qj,qj]]]],%[#[qZ,#[Qg,pv 0,T.qt,T.lH,Zh,#v[#[qI,qF,#[qO,5,pv 0,rfl],#[qY,Ko,#[qO,5,pv 0,rfl],qh]]]]]|#[qG,#[Qo,#[Qd,#[QA,pv 0,T.qt,T.il,Qm]]],%[|#[JB,10,pv 0,qh,oB]],qw]]]]]]]]
 have two:(2:Nat)<=sizeLine:=by decide
 have n1:=hR.n1;generalize aA:mw rs own gs (300-n0) B0 p0 n0=res at k
 let J1_:Nat->L2.St->Hp->Prop:=λm σ H'=>∃(B:Str->D) (p:Int) (n:Nat) (th:D),σ= [u_ (.ref x)]/\yd a.qm H' ⟨x,db,dg,rs,own⟩ ⟨B,p,n,gs,th⟩/\Mv ⟨x,db,dg,rs,own⟩ H H'/\Tr B/\1<=p/\p<=↑rs+1/\n<=300/\((th= .non/\mw rs own gs (300-n) B p n=res/\m=301-n)∨((∃u e,th= .tup [.str u,e])/\⟨B,p,n,gs,th⟩=res/\m=0))
 exists J1_,⟨_,B0,p0,n0,.non,1,M0,Mv.refl _ _,ax,(),(),(),.inl [1:aA:1]⟩
 rintro m σ H' ⟨B,p,n,th,rfl,M,mv,hT,ad,al,hn,hc⟩;have hM:=M;erw[hM,dx,fs,rv,ru,tv,gv,e,f,ir,ij,ib,hg,gl,it];simp only at e f ir ij ib hg gl it;have aB:↑fs<1000:=by have:=f.len;omega
 exists 0,x,_,dx,fs,tv,1,e,T.qt,T.qM,f.there,1,0;rcases hc with⟨rfl,Z,rfl⟩|⟨⟨u,d,rfl⟩,Z,rfl⟩
 ·cases(show tv= .non from it)
  have ag:∀{H:Hp},Is H .non .non:=rfl;refine QG () ?_
  exists λσ' H2=>∃(B:Str->D) (p:Int) (n2:Nat) (th:D),σ'= [u_ (.ref x)]/\yd a.qm H2 ⟨x,db,dg,rs,own⟩ ⟨B,p,n2,gs,th⟩/\Mv ⟨x,db,dg,rs,own⟩ H H2/\Tr B/\1<=p/\p<=↑rs+1/\n2<=300/\((th= .non/\mw rs own gs (300-n2) B p n2=res/\n<n2)∨((∃u e,th= .tup [.str u,e])/\⟨B,p,n2,gs,th⟩=res)),?_,?_
  ·rintro σ' H2 ⟨B2,p2,n2,aM,rfl,M2,ae,aC,a1,a2,a3,aG⟩;rcases aG with⟨rfl,q1,q2⟩|⟨q0,q1⟩
   ·exact⟨301-n2,(),B2,p2,n2,0,M2,ae,aC,a1,a2,a3,.inl [1:q1:1]⟩
   ·exact⟨(0),(),B2,p2,n2,0,M2,ae,aC,a1,a2,a3,.inr [q0:q1:1]⟩
  ·have aH:=ir;erw[aH,ta,us,rfl,aI,iu];have aN:↑us=↑rs:=by rw[↑iu,ue]
   have fl:∀(z:Str) (H:Hp) (l:o3),↑z<=100->H l=US->Is (upd H l (.tup [.str "fault",.str z])) (flt z) (.ref l):=λz H l hz hl=>Is.new (ds:= [.str "fault",.str z]) ⟨_,0,[1:yr ()],_,0,[1:yr ()],1⟩ hl
   have aa:∀(z:Str),↑z<=100->⟨B,p,n,gs,flt z⟩=res->∀l,H' l=US->(λH2=>∃(B:Str->D) (p:Int) (n2:Nat) (th:D),[u_ (V.ref x)]= [u_ (V.ref x)]/\yd a.qm H2 ⟨x,db,dg,rs,own⟩ ⟨B,p,n2,gs,th⟩/\Mv ⟨x,db,dg,rs,own⟩ H H2/\Tr B/\1<=p/\p<=↑rs+1/\n2<=300/\((th= .non/\mw rs own gs (300-n2) B p n2=res/\n<n2)∨((∃u e,th= .tup [.str u,e])/\⟨B,p,n2,gs,th⟩=res))) (upd (upd H' l (.tup [.str "fault",.str z])) x (.ins a.qm dx (iB "there" (.ref l) fs))):=by
    intro z hz aJ l hl;have s1:ic H' (upd H' l (.tup [.str "fault",.str z])):=qf hl _;erw[yh (m:=⟨x,db,dg,rs,own⟩) (r:=⟨B,p,n,gs,flt z⟩) (s1 _ _ e) (f.set_there (u:= .ref l)) (ir.mono s1.tk) (ij.mono s1.tk) (ib.same s1) (s1 _ _ hg) (gl.mono s1.tk) (fl z H' l hz hl),m1,m2];exact⟨B,p,n,flt z,1,m1,mv.trans ((Mv.of s1).trans m2),hT,ad,al,hn,.inr [[_:0]:aJ]⟩
   exists 0,x,_,dx,fs,0,e,T.qt,T.Qi,f.place,0,x,_,dx,fs,0,e,T.qt,T.yY,f.rows,ta,us,1,.inr (SqT.of aI),_,0,1,0;refine lI (λc=>?_) (λc=>?_)
   ·have c':p>↑rs:=by have:=uu c;omega
    have er:⟨B,p,n,gs,flt "silent"⟩=res:=by
     rw[<-Z];cases h3:300-n with
     |zero=>unfold mw;rw[A6 c']
     |succ q=>unfold mw;rw[A6 c']
    exists two,λl hl=>?_;have s1:ic H' (upd H' l (.tup [.str "fault",.str "silent"])):=qf hl _;exact⟨0,x,_,dx,fs,1,s1 _ _ e,T.qt,T.qM,aB,aa "silent" () er l hl⟩
   ·have c':¬p>↑rs:=λh=>c (ud ())
    exists 0,x,_,dx,fs,0,e,T.qt,T.yc,f.done,1,0;refine lI (λc2=>?_) (λc2=>?_)
    ·have e3:n=300:=by have:=uu c2;injection this with h;omega
     have er:⟨B,p,n,gs,flt "long"⟩=res:=by
      rw[<-Z,e3];show _=mw rs own gs 0 B p 300;unfold mw;rw[A4 c']
     exists two,λl hl=>?_;have s1:ic H' (upd H' l (.tup [.str "fault",.str "long"])):=qf hl _;exact⟨0,x,_,dx,fs,1,s1 _ _ e,T.qt,T.qM,aB,aa "long" () er l hl⟩
    ·have e3:n<300:=by
      rcases Gh n 300 with h|h
      ·exact h
      ·exact A8 (ud (by rw[show n=300 by omega];rfl)) c2
     have am:p<=↑rs:=by omega
     have aD:=hR.ok _ (ke ad am);have hok:=pF (own:=own) aD hT ad am;have U:res=match mo own (jT rs p) B p with
       | .go B' p'=>mw rs own gs (300-(n+1)) B' p' (n+1)
       | .stop e=>⟨B,p,if QJ e=v_ then n else n+1,gs,e⟩:=by
      rw[<-Z,show 300-n=(300-(n+1))+1 by omega,mw,A4 c']
     exists 0,x,dx,fs,1,e,f.meth _ ()
     exists 0,x,_,dx,fs,0,e,T.qt,T.yY,f.rows,0,x,_,dx,fs,0,e,T.qt,T.Qi,f.place,_,0,1;have aK:atI (rs.map rowD) (p-1)=u_ (rowD (jT rs p)):=by
      rw[show p-1=((p.toNat-1:Nat):Int) by omega]
      exact qU (by rw[uN,Ch ad am];rfl)
     refine xy (d:=rowD (jT rs p)) ir aK λq hq=>?_
     exists ⟨x,db,dg,rs,own⟩,⟨B,p,n,gs,.non⟩,jT rs p,q,↑rs,1,M,1,hT,ho,aD,hq,λH2 m2 M2=>?_;have aL:=M2;erw[aL,af,ac,aO,aP,aQ,aR,e2,f2,ao,ap,ah,aq,au,ag];simp only at e2 f2 ao ap ah aq au ag;have ak:↑ac<1000:=by have:=f2.len;omega
     have ae:=mv.trans m2;generalize hO:mo own (jT rs p) B p=O at hok U M2 ag ah f2;cases O with
     |go B' p'=>
      erw[hok,q1,q2,q3]
      exists 0,x,af,ac,1,e2,f2.meth _ (),_,0,M2,.inl rfl,0
      refine QG rfl ?_
      exists 0,x,_,af,ac,0,e2,T.qt,T.yc,f2.done,(n:Int),(1),1,1,af,ac,e2,ak;erw[yh (m:=⟨x,db,dg,rs,own⟩) (r:=⟨B',p',n+1,gs,.non⟩) e2 (f2.set_done (k:=n+1)) ao ap ah aq au ag,m3,m4];exact⟨B',p',n+1,.non,1,m3,ae.trans m4,q1,q2,q3,(),.inl [1:U.symm:()]⟩
     |stop d=>
      erw[hok,u,d2,rfl]
      exists 0,x,af,ac,1,e2,f2.meth _ (),_,0,M2,.inr [_:0],0
      cases hw:QJ (.tup [.str u,d2]) with
      |true=>
       simp![hw] at U;refine Qp (by show(!QJ (.tup [.str u,d2]))=UT;rw[hw];rfl) ?_
       exact⟨B,p,n,0,M2,ae,hT,ad,al,hn,.inr [[_:0]:U.symm]⟩
      |false=>
       simp![hw] at U;refine QG (by show(!QJ (.tup [.str u,d2]))=v_;rw[hw];rfl) ?_
       exists 0,x,_,af,ac,0,e2,T.qt,T.yc,f2.done,(n:Int),(1),1,1,af,ac,e2,ak;erw[yh (m:=⟨x,db,dg,rs,own⟩) (r:=⟨B,p,n+1,gs,.tup [.str u,d2]⟩) e2 (f2.set_done (k:=n+1)) ao ap ah aq au ag,m3,m4];exact⟨B,p,n+1,0,m3,ae.trans m4,hT,ad,al,(),.inr [[_:0]:U.symm]⟩
 ·have:tv≠ .non:=by erw[it,_,_,h,_];rw[h];exact λz=>by cases z
  refine Qp (uf this) ?_;refine k H' mv ?_;rw[<-Z];exact M
nonrec def emp (z:Str):D:= .tup [.str z,.str ""]
def Kl {H:Hp}:∀{zs:oj Str}{ys:oj V},L2.IsL H (zs.map emp) ys->∃ts:oj o3,ys=ts.map V.ref/\↑ts=↑zs/\∀(i:Nat) (t:o3) (z:Str),ts[i]? =u_ t->zs[i]? =u_ z->H t=u_ (.tup [.str z,.str ""])
 | [],_,h=>by
  cases(show _= [] from h)
  exact⟨[],1,1,λi t z h=>by simp at h⟩
 |y::zs,_,h=>by
  erw[h,v,r,rfl,[t,us,rfl,O,v1,u1,rfl,[rfl,_],v2,U,rfl,[rfl,_],Z],h2];cases(show U= [] from Z)
  erw[Kl h2,ts,rfl,hl,hi];refine⟨t::ts,1,by rw[um,hl];rfl,λi q z h1 h3=>?_⟩
  cases i with
  |zero=>
   cases h1;cases h3;exact O
  |succ j=>exact hi j q z (by simpa using h1) (by simpa using h3)
variable {ys:oj V}
def Mb {A:o3}(e:H A=u_ (.lst ys))(h:L2.IsL H (BX.map emp) ys):AS H A (BX.map λz=>(z,V.str "")):=by
 erw[Kl h,ts,rfl,U,hi];exists ts,e,by rw[U,ue],λi t p h1 h2=>?_
 rw[uN] at h2;cases O:BX[i]? with
 |none=>rw[O] at h2;cases h2
 |some z=>
  rw[O] at h2;cases h2;exact hi i t z h1 O
nonrec def B0:Str->D:=λ_=> .str ""
variable {q:o3}
def NB (O:H q=US):Ys (upd H q (.dK (iW (BX.map λz=>(z,V.str ""))))) q B0:=by
 exists λ_=> .str "",?_,λz _=>[1:yr ()]
 rw[qg];unfold iW kvB;rw[uU]
 rfl
def NU:Tr B0:=λ_ _=>(by decide+kernel:isT (.str "")=v_)
def IO:((BX.map λz=>(z,V.str "")).map (·.1)).Nodup:=by
 rw[uU];show(BX.map id).Nodup;rw[Hg]
 decide+kernel
def Cl (f:Str)(v:V):∀fs:oj (Str×V),↑(iB f v fs)<=↑fs+1
 | []=>uj _
 |(g,x)::r=>by
  unfold iB;by_cases c:g=f
  ·rw[A6 c];simp
  ·rw[A4 c];have:=Cl f v r;simp![um];omega
nonrec def FLD:oj Str:= ["rows","rule","own","boxes","place","done","given","there"]
def MY:∀m∈MTH,m∉FLD:=by decide+kernel
variable {v:V}
def KQ {db dg:o3}(O:(iB "there" .non (iB "given" (.ref dg) (iB "done" (.int 0) (iB "place" (.int 1) (iB "boxes" (.ref db) (iB "own" (.str own) (iB "rule" v (iB "rows" rv [])))))))).length<=20):
  Fl (iB "there" .non (iB "given" (.ref dg) (iB "done" (.int 0) (iB "place" (.int 1) (iB "boxes" (.ref db) (iB "own" (.str own) (iB "rule" v (iB "rows" rv [])))))))) rv v own db dg 1 0 .non:=by
 exists ?_,?_,?_,?_,?_,?_,?_,?_,λm hm=>?_,O
 ·iterate 7 rw[qJ,A4 ()]
  rw[qJ,A6 rfl]
 ·iterate 6 rw[qJ,A4 ()]
  rw[qJ,A6 rfl]
 ·iterate 5 rw[qJ,A4 ()]
  rw[qJ,A6 rfl]
 ·iterate 4 rw[qJ,A4 ()]
  rw[qJ,A6 rfl]
 ·iterate 3 rw[qJ,A4 ()]
  rw[qJ,A6 rfl]
 ·iterate 2 rw[qJ,A4 ()]
  rw[qJ,A6 rfl]
  rfl
 ·rw[qJ,A4 (),qJ,A6 rfl]
 ·rw[qJ,A6 rfl]
 ·have h:=MY m hm
  iterate 8 rw[qJ,A4 (λe=>h (by rw[e];decide+kernel))]
  rfl
structure Ini (n:Nat)(H:Hp)(C x dx:o3)(fs:oj (Str×V))(H':Hp):Prop where
 len:↑fs<=n
 at':H' x=u_ (.ins C dx fs)
 kept:∀b o,H b=u_ o->b≠x->H' b=u_ o
def Ini.put {x:o3}{fs:oj (Str×V)}(I:Ini n H C x dx fs H')(f:Str)(v:V):Ini (n+1) H C x dx (iB f v fs) (upd H' x (.ins C dx (iB f v fs)))/\Tk H' (upd H' x (.ins C dx (iB f v fs))):=
 ⟨⟨uQ (Cl f v fs) (Rf I.len),qg,λb o h n=>by rw[qk n];exact I.kept b o h n⟩,Tk.updI I.at'⟩
def Ini.same {x:o3}{fs:oj (Str×V)}(I:Ini n H C x dx fs H')(s:ic H' H2):Ini n H C x dx fs H2:=[I.len:s _ _ I.at':λb o h n=>s _ _ (I.kept b o h n)]
def Pl {K:o0}{b A:o3}{H1:Hp}{te:TE}{tl:L2.St}{Q:VK}(O:∀H,SqT K H b (BX.map V.str))(hA:H1 A=US)
  (U:∀(z:Str) H (R:VK),↑z<=UX->ic H1 H->(∀y H',ic H H'->Is H' (emp z) y->R y H')->te (u_ (.str z)::tl) H R)
  (hQ:∀H' ys,ic H1 H'->H' A=u_ (.lst ys)->L2.IsL H' (BX.map emp) ys->Q (.ref A) H'):Di A (Itt K b) (ji 0) AW te (US::tl) H1 Q:=by
 have hl:∀H,L2.IsL H (BX.map D.str) (BX.map V.str):=λH=>IsL.ofStrs λz Z=>yr (by rw[(KW Z).1];decide)
 refine Dg (ds:=BX.map D.str) (λd=>match d with| .str z=>emp z|d=>d) (yr ()) hA (λi H sm hi=>⟨BX.map V.str,(BX.map V.str)[i]'(by simpa using hi),O H,uq _⟩) (λi H x H' d sm hd y=>?_) (λH sm=>⟨BX.map V.str,O H,by simp⟩) (λd x H R hd sm hx r=>?_) (λH' ys sm e h=>hQ H' ys sm e ?_)
 ·erw[y,rfl,y];erw[(hl H').get hd,v,e1,e2];have:=y _ (O H');rw[e1] at this;cases this;exact[1:e2]
 ·erw[Ae.mp hd,z,_,rfl];erw[hx,rfl,Z];exact U z H R Z sm r
 ·rwa[uU] at h
def IC:∀{d:D},mx d=v_->∃own,d= .str own/\nm own=v_/\↑own<=100
 | .str z,h=>⟨z,1,h,by
  rcases Gh 24 ↑z with h1|h1
  ·rw[show mx (.str z)=nm z from rfl,An (λq=>by omega)] at h
   cases h
  ·omega⟩
def oW {n:Nat}:∀{ds:oj D},ds.all (λd=>(Qj n d).isSome)=v_->((ds.filterMap (Qj n)).map λr=>D.str (y9 r))=ds/\↑(ds.filterMap (Qj n))=↑ds/\∀r∈ds.filterMap (Qj n),jU n 300 r
 | [],_=>⟨1,1,λr h=>by simp at h⟩
 |d::ds,h=>by
  rw[vq,uC] at h;erw[Xp h.1,r,O];erw[oW h.2,Z,i2,i3];cases d with
  |str z=>
   obtain⟨h1,h2⟩:=sW (show wf n z=u_ r from O)
   rw[U2 O];exists by rw[uB,h2,Z],by rw[um,um,i2],λx U=>?_
   rcases Aa.mp U with rfl|U
   ·exact h1
   ·exact i3 x U
  |_=>cases O
def W7:∀{d:D}{rs:oj Rw},QI d=u_ rs->ya rs/\d=Yp rs
 | .tup ds,rs,h=>by
  rw[Xy] at h;split at h
  ·rename_i O
   cases h;simp![uC,uZ] at O;erw[O,[[h1,h2],h3],h4];erw[oW h3,U,Z,i3];have e:Yp (ds.filterMap (Qj ↑ds))= .tup ds:=A9 D.tup U;exact⟨⟨(),(),λr hr=>by rw[Z];exact i3 r hr,by rwa[e]⟩,e.symm⟩
  ·cases h
inductive EA (C br bn:Addr)(vs:List V)(H:Hp)(Q:VK)(E:XK):Prop
 |mk (x dx:Addr)(v ov:V)(d od:D)(_:vs= [.ref x,v,ov])(_:H x=u_ (.ins C dx []))(_:Is H d v)(_:Is H od ov)(_:(QI d=US->∀(e:Addr)(H':Hp),(∀b o,H b=u_ o->b≠x->H' b=u_ o)->E (.ref e) (u_ br) H'))(_:(QI d≠US->mx od=UT->∀(e:Addr)(H':Hp),(∀b o,H b=u_ o->b≠x->H' b=u_ o)->E (.ref e) (u_ bn) H'))(_:(∀(rs:List Rw)(own:Str),d=Yp rs->ya rs->od= .str own->nm own=v_->↑own<=100->∀(H':Hp)(db dg:Addr),(∀b o,H b=u_ o->b≠x->H' b=u_ o)->H db=US->H dg=US->yd C H' ⟨x,db,dg,rs,own⟩ (mw rs own [] 300 B0 1 0)->Q .non H'))
def Ak (T:Tx K mg a)(C:Fx K w mg g a):FnOk P w K mg base (CX1 P w) 6 a.Y3 a.J8 ["self","rule","own"] (EA a.qm g.br g.bn):=by
 have Q0:=#[zf,T];have O:=#[Mu,T,C];have YI:=#[CT,T,C];refine T.iZ.F.okX Zn () (λ_ _ _ _ H _ Q E hr h=>?_)
 erw[h,x,dx,v,ov,d,od,rfl,hx,hv,ho,kR,kN,k];exists 3,%[#[Qc,#[qu,16,O,hr.mono (),_,T.ld.m,T.ld.F.kp,T.ld.b,.nil,S5,#v[pv 1],_,_,_]],#[qG,#[Qo,#[Qd,#[qu,Q0,hr.mono (),T.iH,#v[pv 2]]]],%[|#[Ag,22,C.x_BadName,_,C.m_BadName,qj,_,_]],qw],#[Qc,pv 1],#[Qc,pv 2],#[Qc,#[Ql,#[Bu,1,rfl],T.z_dict,boot_dict,#v[#[xG,["box"],[],Kz,#[X7,#[pe_gR,C.m_BOXES]],(λ_ _ _ _ _ _=>#[qQ,(0),(show Vd (["box"]:oj Str) by decide+kernel)]),(λ_ _ _ _ _ _=> @yM _),(λ_ _ _ _ _ _=>#[qB,#v[pv 0,qj]])]]]],#[Qc,qh],#[Qc,qh],#[Qc,#[QF,qd]],#[Qc,qP]|#[qZ,#[QA,pv 0,T.qt,T.iN,YI]]]
 exists 0,v,d,1,hv,λrs al rv H1 s1 ir=>?_,λhn e H1 s1=>kR hn e H1 λb o h _=>s1 b o h
 exists 0,x,_,dx,[],1,s1 _ _ hx,T.qt,T.yY,()
 have I0:Ini 0 H a.qm x dx [] H1:=[uj _:s1 _ _ hx:λb o h _=>s1 _ _ h];erw[I0.put "rows" rv,I1,t1];have aA:=ir.mono t1;have htk:∀{n:Nat}{fs:oj (Str×V)}{H':Hp},Ini n H a.qm x dx fs H'->Tk H H':=λ{n fs H'} I=>⟨λb xs e=>I.kept b _ e (λz=>by rw[z,hx] at e;cases e),λb xs e=>⟨_,I.kept b _ e (λz=>by rw[z,hx] at e;cases e)⟩,λb xs e=>⟨_,I.kept b _ e (λz=>by rw[z,hx] at e;cases e)⟩⟩
 exists 0,ov,od,1,ho.mono (htk I1),λH3 s3=>[0:?_];have I3:=I1.same s3;cases ac:mx od with
 |false=>exact i9 ⟨1,λe=>kN (by rw[al];simp) ac e H3 I3.kept⟩
 |true=>
 refine iS ?_;erw[W7 al,hR,rfl];erw[IC ac,own,rfl,ac,am];cases(show ov= .str own from ho.1)
 have n1:=hR.n1;have k:=k rs own rfl hR rfl ac am;have aB:=aA.mono s3.tk
 exists 5
 refine⟨0,0,x,_,dx,0,I3.at',T.qt,T.wN,by have:=I3.len;omega,?_⟩
 erw[I3.put "rule" v,I4,t4];have aC:=aB.mono t4
 exists 5
 refine⟨0,0,x,_,dx,0,I4.at',T.qt,T.XI,by have:=I4.len;omega,?_⟩
 erw[I4.put "own" (.str own),I5,t5];have aD:=aC.mono t5
 exists g.boxes,0,C.boxes _,λaO A0 aE=>?_;refine Pl (tl:= []) C.boxes aE (λz H6 R hz s6 r=>[0:(sml rfl):λl hl=>r _ _ (qf hl _) (Is.new (ds:= [.str z,.str ""]) ⟨_,0,[1:hz],_,0,[1:yr ()],1⟩ hl)]) λH6 ys s6 e6 i6=>?_
 exists A0,0,Mb e6 i6,IO,(),λdb Z=>?_
 have I6:=I5.same s6;have s7:ic H6 (upd H6 db (.dK (iW (BX.map λz=>(z,V.str ""))))):=qf Z _;have I7:=I6.same s7;have b7:=NB Z;have aF:=(aD.mono s6.tk).mono s7.tk;have nx:∀b o,H b=u_ o->b≠x->b≠db:=λb o h n=>ql (I6.kept b o h n) Z;have U:x≠db:=ql I6.at' Z
 exists 5
 refine⟨0,x,_,dx,0,I7.at',T.qt,T.Qv,by have:=I7.len;omega,?_⟩
 erw[I7.put "boxes" (.ref db),I8,t8];have b8:=b7.move t8 (qk U.symm);have aG:=aF.mono t8
 exists 5
 refine⟨0,x,_,dx,0,I8.at',T.qt,T.Qi,by have:=I8.len;omega,?_⟩
 erw[I8.put "place" (.int 1),I9,t9];have b9:=b8.move t9 (qk U.symm);have aH:=aG.mono t9
 exists 5
 refine⟨0,x,_,dx,0,I9.at',T.qt,T.yc,by have:=I9.len;omega,?_⟩
 erw[I9.put "done" (.int 0),ad,ao];have aI:=b9.move ao (qk U.symm);have ap:=aH.mono ao
 exists (sml rfl),λdg ae=>?_;have af:=qf ae (.lst []);have ag:=ad.same af;have aJ:=aI.same af;have aq:=ap.mono af.tk;have ah:dg≠x:=(ql ad.at' ae).symm
 exists 5
 refine⟨0,x,_,dx,0,ag.at',T.qt,T.YF,by have:=ag.len;omega,?_⟩
 erw[ag.put "given" (.ref dg),ak,au];have aK:=aJ.move au (qk U.symm);have aw:=aq.mono au
 exists 5
 refine⟨0,x,_,dx,0,ak.at',T.qt,T.qM,by have:=ak.len;omega,?_⟩
 erw[ak.put "there" .non,aa,ax];have aL:=aK.move ax (qk U.symm);have ay:=aw.mono ax;have hl:=aa.len
 exists 0,x,dx,0,aa.at',(KQ ()).meth _ ()
 have aM:Is _ (Yp rs) v:=hv.mono (htk aa);have frs:∀{b:o3}{H2:Hp},(∀c o,H c=u_ o->c≠x->H2 c=u_ o)->H2 b=US->b≠x->H b=none:=λ{b H2} k1 h1 n1=>by
  cases hc:H b with
  |none=>rfl
  |some o=>rw[k1 b o hc n1] at h1;cases h1
 have aN:∀b o,H b=u_ o->b≠x->b≠dg:=λb o h n=>ql (ad.kept b o h n) ae
 exists 5
 refine⟨⟨x,db,dg,rs,own⟩,⟨B0,(1),(0),[],.non⟩,1,⟨dx,_,rv,v,.non,[],aa.at',KQ (),ay,aM,aL,?_,1,1⟩,1,NU,am,hR,Int.le_refl 1,by show(1:Int)<=(↑rs:Int)+1;omega,uW _,λH' m M=>k H' db dg (λb o h n=>m.kept b o (aa.kept b o h n) n (nx b o h n) (aN b o h n)) (frs I6.kept Z U.symm) (frs ad.kept ae ah) M⟩
 rw[qk ah,qk ah,qg]
nonrec def jV (z:Str):Bool:=z.cps.toList.all Qz
def CY {y:Str}(h:jV z=v_)(k:jV y=v_):jV (z++y)=true:=by
 unfold jV at*;show(z.cps++y.cps).toList.all Qz=v_;rw[tN,UE,h,k];rfl
mutual
noncomputable def lw:D->Bool
 | .str z=>jV z
 | .tup xs=>lwL xs
 |_=>UT
noncomputable def lwL:oj D->Bool
 | []=>v_
 |x::r=>lw x&&lwL r
end
def pV (z:Str):↑z=↑z.cps.toList:=by show z.cps.size=_;simp
def Ds (h:jV z=v_)(O:↑z<=300):isT (.str z)=true:=by
 have U:Qs z=true:=by
  unfold Qs;rwa[ud O,HK]
 have Z:sz (.str z)<=600:=by simp![sz];omega
 have e2:dp (.str z)<=12:=by simp![dp];omega
 have e3:iL (.str z)=true:=by simp![iL];exact U
 unfold isT;rw[e3,ud Z,ud e2]
 rfl
nonrec def isP:D->Bool
 | .tup xs=>decide (↑xs=2)
 |_=>UT
nonrec def oA:D->Bool
 | .tup [k,d]=>if eqD k (.str "made")=v_ then mx d else(eqD k (.str "leaf")||eqD k (.str "rule"))&&isT d
 |_=>UT
nonrec def okS:D->Bool
 | .tup [k,_]=>Kt k&&decide (dp k<=60)
 |_=>v_
inductive LA:Sp
 |mk (v:_)(d:_)(_:vs= [v])(_:Is H d v)(_:Q (.bl (isP d)) H)
inductive BU:Sp
 |mk (v:_)(d:_)(_:vs= [v])(_:Is H d v)(_:okS d=v_)(_:∀H',ic H H'->Q (.bl (oA d)) H')
inductive LQ (K:PySem.W.Frag):Sp
 |mk (q:Addr)(ns:List Int)(k:Int)(_:vs= [.ref q,.int k])(_:0<=k)(_:SqL K H q (ns.map V.int))(_:∀i:Int,Q (.int i) H)
def lP {b:Bool}{A B:Prop}(O:b=v_)(h:A):if b=v_ then A else B:=by rw[A6 O];exact h
def lr {b:Bool}{A B:Prop}(O:b=UT)(h:B):if b=v_ then A else B:=by rw[A4 (by rw[O];exact uc)];exact h
def Mz:#[T,1,a.f_is_pair,a.d_is_pair,["value"],LA]:=by
 exists 9,T.mT,Ba
 erw[h,v,d,rfl,U,k];exists 3,%[|#[qp,#[pe_and,#[qy,#[qV,2,rfl],T.qT,uV,#v[pv 0,#[Q1,.ty "tuple",T.Q8,vE]]],#[Wv,#[yT,Qq,#[qy,Jm,T.yx,uK,#v[pv 0]],qh,qA _]]]]]
 exists 0,v,"tuple",tyD d,X6 d,1,U.ty,xn d,0;cases Z:X6 d with
 |false=>
  refine iS ?_;have e:isP d=false:=by cases d<;>first|rfl|simp[X6] at Z
  rwa[e] at k
 |true=>
  obtain⟨xs,rfl⟩:∃xs,d= .tup xs:=by cases d<;>simp[X6] at Z;exact⟨0⟩
  erw[U,p,us,rfl,hp,O];have lu:=↑O;refine i9 [0:.inr ⟨p,us,1,.inr (SqT.of hp),λ_=>[1:?_]⟩];have e:decide (V.int (↑us:Int)=V.int 2)=isP (.tup xs):=by
   simp![isP,uX];constructor
   ·intro h;have:=V.int.inj h;omega
   ·intro h;rw[lu,h]
    rfl
  rwa[<-e] at k
def CC:#[T,3,a.wv,a.wG,["value"],BU]:=by
 have O:=#[Mz,T];have Q0:=#[zf,T];have yE:=#[jk,T];exists 9,T.mE,nA,Z
 erw[h,v,d,rfl,hv,hok,k];exists 3,%[#[qG,#[Qo,#[Qd,#[qu,O,Z.mono (),T.mT,#v[pv 0]]]],%[|#[qp,jw]],qw],#[qG,#[qr,#[OZ,1,Z.units],#[qI,qF,pv 0,qh],qj],%[|#[qp,#[qu,Q0,Z.mono (),T.iH,#v[#[qI,qF,pv 0,qh]]]]],qw]|#[qp,#[pe_and,#[yT,#[Kq,1,Z.units],#[qI,qF,pv 0,qh],#[qB,#v[qj,qj]],#[w]],#[Wv,#[qu,yE,Z.mono (),T.iV,#v[#[qI,qF,pv 0,qh]]]]]]]
 exists 0,v,0,hv,0;cases hP:isP d with
 |false=>
  refine i9 ?_;have e:oA d=false:=by
   cases d with
   |tup xs=>
    match xs,hP with
    | [],_=>rfl
    | [_],_=>rfl
    | [_,_],h=>simp[isP] at h
    |_::_::_::_,_=>rfl
   |_=>rfl
  have:=k H (ic.refl _);rwa[e] at this
 |true=>
  refine iS ?_;obtain⟨z,e,rfl⟩:∃z e,d= .tup [z,e]:=by
   cases d with
   |tup xs=>
    match xs,hP with
    | [],h=>simp[isP] at h
    | [_],h=>simp[isP] at h
    | [x,y],_=>exact[x:y:1]
    |_::_::_::_,h=>simp[isP] at h
   |_=>simp[isP] at hP
  erw[id hv,p,us,rfl,hp,x1,r1,rfl,h1,x2,r2,rfl,h2,h3];cases(show r2= [] from h3)
  have U:Kt z=v_/\dp z<=60:=by simpa [okS] using hok
  exists 0,p,_,_,0,1,SqT.of hp,1,z,"made",h1,1,(),U.1,U.2,0
  cases c:eqD z (.str "made") with
  |true=>
   refine i9 ⟨0,p,_,_,0,1,SqT.of hp,1,x2,e,1,h2,λH' s'=>?_⟩;have:=k H' s';simp![oA,c,if_true] at this;exact this
  |false=>
   refine iS ⟨0,p,_,_,0,1,SqT.of hp,1,(sml rfl),λq hq=>?_⟩;have s1:ic H (upd H q (.tup [.str "leaf",.str "rule"])):=qf hq _
   exists z,q,["leaf","rule"],h1.mono s1.tk,1,.inr (SqT.of qg),(),U.1,U.2,0
   have e2:(["leaf","rule"]:oj Str).any (λy=>eqD z (.str y))=(eqD z (.str "leaf")||eqD z (.str "rule")):=by simp
   rw[e2];cases c2:(eqD z (.str "leaf")||eqD z (.str "rule")) with
   |true=>
    refine i9 ⟨0,p,_,_,0,1,SqT.of (s1 _ _ hp),1,x2,e,1,h2.mono s1.tk,λH' s'=>?_⟩;have:=k H' (s1.trans s');simp![oA,c,c2,HK,UB,if_false] at this;exact this
   |false=>
    refine iS ?_;have:=k _ s1;simp![oA,c,c2,Ra,UB,if_false] at this;exact this
def MN:#[T,1,a.Xr,a.Xl,["script","k"],(LQ K)]:=by
 exists 9,T.l6,wU
 erw[h,q,ns,j,rfl,h0,O,k];exists 3,%[#[qG,#[qr,Cu,pv 1,#[qy,qN,T.yx,uK,#v[pv 0]]],%[|#[qp,#[qI,yi,pv 0,pv 1]]],qw]|#[qp,qh]]
 exists 0,0,q,0,.inl O,_,0,1,0;refine lI (λc=>?_) (λc=>?_)
 ·have Z:j<(↑(ns.map V.int):Int):=uu c;erw[yZ h0 Z,v,U];erw[Ae.mp (Y7 U),i,_,rfl];exact⟨0,0,q,_,_,0,1,O,U,k _⟩
 ·exact k 0
nonrec def okN (z:Str):Bool:=(z.cps.toList.map λc=>inS ⟨#[c]⟩ NSG).all id
def WY (h:nm z=v_):1<=↑z/\↑z<=24:=by
 by_cases c:1<=(↑z:Int)/\(↑z:Int)<=24
 ·omega
 ·rw[An c] at h;cases h
nonrec def Nms (zs:oj Str):Prop:=(∀z∈zs,nm z=v_)/\zs.Nodup
nonrec def wL (d:D):Prop:=(∃k e,d= .tup [.str k,e])/\oA d=v_/\lw d=v_/\sz d<=306
nonrec def prD (p:Str×D):D:= .tup [.str p.1,p.2]
nonrec def Aax (ps:oj (Str×D)):Prop:=Nms (ps.map (·.1))/\∀p∈ps,wL p.2
def CW (h:okN z=v_):jV z=true:=by
 unfold jV;rw[U5];intro c U;have:=List.all_eq_true.mp h _ (Ae.mpr [c:U:1]);rw[id,Ni] at this;have O:∀c∈NSG.cps.toList,Qz c=true:=by decide+kernel
 exact O c (uu this)
def Kv (h:nm z=v_):okN z=true:=by
 have O:=WY h;cases h3:inS ⟨#[z.cps.getD 0 0]⟩ LET with
 |false=>rw[Ao h3] at h;cases h
 |true=>
  rw[C3 () () h3] at h
  exact h
def Es (h:nm z=v_):wL (.tup [.str "made",.str z]):=by
 have O:=WY h;refine⟨[_:0],?_,?_,by simp![sz,szL];show 1+(("made":Str).length+1+(↑z+1+0))<=306;have:("made":Str).length=4:=rfl;omega⟩
 ·show(if eqD (.str "made") (.str "made")=v_ then nm z else(eqD (.str "made") (.str "leaf")||eqD (.str "made") (.str "rule"))&&isT (.str z))=v_
  rw[A6 ()]
  exact h
 ·have:jV "made"=true:=by decide+kernel
  simp![lw,lwL,this,CW (Kv h)]
  rfl
def Et {k:Str}{d:D}(O:k="leaf"∨k="rule")(h:isT d=v_)(U:lw d=v_)(hz:sz d<=300):wL (.tup [.str k,d]):=by
 have Z:↑k=4:=by rcases O with rfl|rfl<;>rfl
 refine⟨[_:0],?_,?_,by simp![sz,szL];omega⟩
 ·show(if eqD (.str k) (.str "made")=v_ then mx d else(eqD (.str k) (.str "leaf")||eqD (.str k) (.str "rule"))&&isT d)=v_
  have e1:eqD (.str k) (.str "made")=false:=by rcases O with rfl|rfl<;>decide+kernel
  have e2:(eqD (.str k) (.str "leaf")||eqD (.str k) (.str "rule"))=true:=by rcases O with rfl|rfl<;>decide+kernel
  rw[e1,e2,h]
  rfl
 ·have:jV k=true:=by
   rcases O with rfl|rfl<;>decide+kernel
  simp![lw,lwL,this,U]
  rfl
def Lo {d:D}(h:wL d):okS d=true:=by
 erw[h,[k,e,rfl],_];simp[okS,Kt,trD,dp]
def Ya (h:↑z<=16000000):Is H (.str z) (.str z):=[1:mI h]
nonrec def qS (ps:oj (Str×D))(z:Str):D:=((ps.find? λp=>decide (p.1=z)).map (·.2)).getD .non
nonrec def zg (vs:oj (Str×V))(z:Str):V:=(iK (iW vs) (UV z)).getD .non
def Xu (p:Str×V)(r:oj (Str×V)):iW (p::r)=(UV p.1,p.2)::iW r:=rfl
def n9 {H:Hp}{z:Str}:∀{ps:oj (Str×D)}{vs:oj (Str×V)},vs.map (·.1)=ps.map (·.1)->IsL H (ps.map (·.2)) (vs.map (·.2))->z∈ps.map (·.1)->iK (iW vs) (UV z)=u_ (zg vs z)/\Is H (qS ps z) (zg vs z)
 | [],_,_,_,h=>nomatch h
 |p::ps,[],e,_,_=>by simp at e
 |p::ps,v::vs,e,hi,hz=>by
  simp![uB,UF] at e;erw[hi,u,r,e2,h1,h2];simp![uB,UF] at e2;erw[e2,rfl,rfl];by_cases c:p.1=z
  ·have O:v.1=z:=e.1.trans c;have U:iK (iW (v::vs)) (UV z)=u_ v.2:=by
    rw[Xu];exact QL (by rw[O])
   have Z:qS (p::ps) z=p.2:=by simp[qS,vd,c]
   unfold zg;rw[U,Z];exact[1:h1]
  ·have O:¬v.1=z:=λq=>c (e.1.symm.trans q);have U:iK (iW (v::vs)) (UV z)=iK (iW vs) (UV z):=by
    rw[Xu];exact QD (λq=>O (Uf q))
   have Z:qS (p::ps) z=qS ps z:=by simp[qS,vd,c]
   have aa:z∈ps.map (·.1):=by
    rcases Aa.mp hz with h|h
    ·exact A8 h.symm c
    ·exact h
   have ih:=n9 e.2 h2 aa;unfold zg at*;rw[U,Z];exact ih
def De {z:Str}:∀{vs:oj (Str×V)},z∉vs.map (·.1)->iK (iW vs) (UV z)=US
 | [],_=>rfl
 |v::vs,h=>by
  rw[Xu,QD (λq=>h (by rw[<-Uf q];exact ui ..))]
  exact De λm=>h (uh _ m)
def Ki:∀{ps:oj (Str×D)},(ps.map (·.1)).Nodup->(ps.map (·.1)).map (λz=>(z,qS ps z))=ps
 | [],_=>rfl
 |p::ps,h=>by
  have h':=List.nodup_cons.mp h;have O:qS (p::ps) p.1=p.2:=by simp[qS,vd]
  rw[uB,uB,O]
  congr 1
  refine Eq.trans (Uu λz U=>?_) (Ki h'.2);have:¬p.1=z:=λq=>h'.1 (by show p.1∈_;rwa[q])
  simp[qS,vd,this]
nonrec def AV (ps:oj (Str×D))(ms:oj Str):oj (Str×D):=ms.map λz=>(z,qS ps z)
def kl (ps:oj (Str×D))(O:oj Str):(AV ps O).map (·.1)=O:=by
 unfold AV;rw[uU];exact(Uu λ_ _=>rfl).trans (Hg O)
def sO {ps:oj (Str×D)}{O:oj Str}(hn:(ps.map (·.1)).Nodup)(h:O.Perm (ps.map (·.1))):(AV ps O).Perm ps:=by
 have:=h.map λz=>(z,qS ps z);rwa[Ki hn] at this
nonrec def Yb (C:o3)(H:Hp)(x:o3)(qs:oj (Str×D)):Prop:=∃(dx d:o3) (o:Obj) (vs:oj (Str×V)),H x=u_ (.ins C dx [("by_name",.ref d)])/\H d=u_ (.frz o (.dK (iW vs)))/\vs.map (·.1)=qs.map (·.1)/\L2.IsL H (qs.map (·.2)) (vs.map (·.2))
variable {qs:oj (Str×D)}
def Yb.same {x:o3}(h:Yb C H x qs)(s:ic H H'):Yb C H' x qs:=by
 erw[h,dx,d,o,vs,h1,h2,h3,h4];exact⟨dx,d,o,vs,s _ _ h1,s _ _ h2,h3,h4.mono s.tk⟩
nonrec def ye (qs:oj (Str×D)):Prop:=Aax qs/\sortedS (qs.map (·.1))=v_/\↑qs<=60
inductive LJ (C:Addr):Sp
 |mk (x dx t:Addr)(ps:List (Str×D))(us:List V)(_:vs= [.ref x,.ref t])(_:H x=u_ (.ins C dx []))(_:H t=u_ (.tup us))(_:L2.IsL H (ps.map prD) us)(_:Aax ps)(_:↑ps<=60)(_:∀(qs:List (Str×D))(H':Hp),(∀b o,H b=u_ o->b≠x->H' b=u_ o)->Yb C H' x qs->ye qs->qs.Perm ps->Q .non H')
variable {l:oj Str}
def Nms.perm {m:oj Str}(h:Nms m)(p:l.Perm m):Nms l:=[λz O=>h.1 z (p.mem_iff.mp O):(p.nodup_iff).mpr h.2]
def AH {ps:oj (Str×D)}{d:D}(hn:(ps.map (·.1)).Nodup)(h:(z,d)∈ps):qS ps z=d:=by
 induction ps with
 |nil=>cases h
 |cons p r Z=>
  have O:=List.nodup_cons.mp hn;rcases Aa.mp h with h|h
  ·subst h;simp[qS,vd]
  ·have:¬p.1=z:=λq=>O.1 (by show p.1∈_;rw[q];exact Ae.mpr [_:h:1])
   have U:=Z O.2 h
   simpa [qS,vd,this] using U
def Ny {ps:oj (Str×D)}(hn:(ps.map (·.1)).Nodup)(h:z∈ps.map (·.1)):(z,qS ps z)∈ps:=by
 erw[Ae.mp h,p,O,rfl];rw[AH hn (show(p.1,p.2)∈ps from O)]
 exact O
def Dw (vs:oj (Str×V))(z:Str)(v:V):iW (vs++ [(z,v)])=iW vs++ [(UV z,v)]:=by
 unfold iW;rw[uz]
 rfl
def Abq {α β:Type}(f:α->β){l:oj α}{i:Nat}(h:i<↑l):(l.map f)[i]? =u_ (f l[i]):=by
 rw[uN,uq h]
 rfl
def Er {α:Type}{l:oj α}{i:Nat}(h:i<↑l):l.take (i+1)=l.take i++ [l[i]]:=by
 rw[vD,uq h]
 rfl
def MG:#[T,4,a.Y1,a.xc,["self","sources"],(LJ a.qE)]:=by
 have Q0:=#[zf,T];have U:=#[CC,T];refine T.lS.F.ok yF () (λ_ _ _ _ H vs Q E hr h=>?_)
 erw[h,x,dx,t,ps,us,rfl,hx,ht,ap,hok,aL,k];have hs:=uD;exists 3,%[#[qC,2,(2),4,yF.nd,rfl,VI rfl,Xg,_,_],#[xf,#[Ah,4,pv 1],#[wA,QC #[qQ,(3),yF.nd] (QC #[qQ,(4),yF.nd] Jb)],%[#[qG,#[Qo,#[Qd,#[qu,Q0,hr.mono (),T.iH,#v[pv 3]]]],%[|ju],qw],#[qG,#[Qo,#[Qd,#[qu,U,hr.mono (),T.mE,#v[pv 4]]]],%[|ju],qw],#[qG,#[pt_cmp,#[Aj,5,QU hr,pv 3,pv 2]],%[|ju],qw],#[qG,#[qr,Qq,#[qy,D6,T.yx,uK,#v[pv 2]],#[kJ,T.m_MOST_NAMES]],%[|ju],qw]|#[Jp,pv 2,pv 3,pv 4]]]|#[Qc,#[Ql,#[Bv,1,rfl],T.z_dict,boot_dict,#v[#[xG,["name","by_name"],[2],Ky (qi y7) ["self","sources","by_name","name","source"],#[pI,4,#[qy,#[oR,1,rfl],T.z_sorted,boot_sorted,#v[pv 2]]],(λ_ _ _ _ _ _=>#[qQ,(0),(show Vd (["name","by_name"]:oj Str) by decide+kernel)]),(λ_ _ _ _ _ _=> @yM _),(λ_ _ _ _ _ _=>#[qB,#v[pv 0,#[Qt,pv 1,pv 0]]])]]]]]
 intro d hd;have s1:ic H (upd H d (.dK [])):=qf hd _;have aM:d≠x:=λe=>by rw[e,hx] at hd;cases hd
 have aq:=↑ap;rw[ue] at aq
 exists 5
 refine⟨0,t,1,[_:SqT.of (s1 _ _ ht)],ko (K:=K) (a:=t) (xs:=us) (λi σ H'=>∃(vs:oj (Str×V)) (nv sv:om V),σ= [u_ (.ref x),u_ (.ref t),u_ (.ref d),nv,sv]/\ic H H'/\H' d=u_ (.dK (iW vs))/\vs.map (·.1)=(ps.take i).map (·.1)/\L2.IsL H' ((ps.take i).map (·.2)) (vs.map (·.2)))
  ⟨[],US,US,1,s1,qg,1,1⟩ (λi σ H' _ ⟨_,_,_,_,sm,_⟩=>SqT.of (sm _ _ ht)) ?_ ?_⟩
 ·rintro i y σ H' hi ⟨vs,nv,sv,rfl,sm,ac,hk,hv⟩;have aN:i<↑us:=(Af.mp hi).1;have Z:i<↑ps:=by omega
  erw[ap.get (Abq prD Z),v,e1,e2];rw[hi] at e1;cases e1;have au:=hok.2 _ (uY Z);have aB:nm ps[i].1=true:=hok.1.1 _ (Ae.mpr [_:uY Z:1]);erw[au,[sk,sd,aO],aC,aP];erw[e2,p,ws,rfl,hp,w1,r1,rfl,[rfl,hz],w2,r2,rfl,h2,h3];cases(show r2= [] from h3)
  have aD:=sm _ _ hp
  exists p,0,SqT.of aD,1,_,0,_,0,1
  exists 0,_,.str ps[i].1,1,[1:hz],λH3 s3=>⟨0,lr (by simp[mx,aB]) ?_⟩
  have aw:Is H3 ps[i].2 w2:=h2.mono (sm.trans s3).tk
  exists 0,w2,ps[i].2,1,aw,Lo (hok.2 _ (uY Z)),λH4 s4=>⟨0,lr (by rw[aC];rfl) ?_⟩
  have af:=s3.trans s4;have ad:=af _ _ ac;have nk:ps[i].1∉vs.map (·.1):=by
   rw[hk];have aa:=hok.1.2;have e:ps.map (·.1)=(ps.take i).map (·.1)++ps[i].1::(ps.drop (i+1)).map (·.1):=by
    rw[<-uB (f:=λx:Str×D=>x.1),<-vg Z,<-uz,FL]
   rw[e,List.nodup_append] at aa;exact λm=>aa.2.2 _ m _ (ui ..) rfl
  have ev:=De nk;have aE:↑vs=i:=by
   have:=A9 VD hk;rw[ue,ue,vN] at this;omega
  exists 0,0,d,0,mJ.k (k:=UV ps[i].1) ad,0,lr (by rw[ev];rfl) ?_
  exists 0,d,0,ad,1,0,lr (uf λq=>?_) ?_
  ·have:=V.int.inj q;unfold iW at this;rw[ue] at this;omega
  ·have aF:↑(iW vs)<sizeLine:=by
    unfold iW;rw[ue];omega
   exists 0,0,0,d,0,Eg.k (k:=UV ps[i].1) ad aF;have tk:Tk H4 (upd H4 d (.dK (lD (iW vs) (UV ps[i].1) w2))):=Tk.updD ad
   exists vs++ [(ps[i].1,w2)],_,0,?_,?_,?_,?_
   ·intro b o e;rw[qk (ql e hd)];exact(sm.trans af) _ _ e
   ·rw[qg,Ke _ ev,Dw]
   ·rw[Er Z,uz,uz,hk]
    rfl
   ·rw[Er Z,uz,uz];exact(((hv.mono af.tk).mono tk)).append (L2.IsL.one ((aw.mono s4.tk).mono tk))
 ·rintro σ H1 ⟨vs,nv,sv,rfl,sm,ac,hk,hv⟩;rw[aq,Us] at hk hv;have aE:↑vs=↑ps:=by
   have:=A9 VD hk
   rwa[ue,ue] at this
  have ag:(iW vs).map (·.1)=(ps.map (·.1)).map Sum.inr:=by rw[wn,hk]
  exists 5
  refine⟨0,d,iW vs,ps.map (·.1),1,ac,ag,by rw[ue];omega,λms q O ah hq=>⟨q,1,[_:SqL.of qg],λA0 ak=>?_⟩⟩
  have s2:ic H1 (upd H1 q (.lst (ms.map V.str))):=qf hq _;have aQ:↑ms=↑ps:=by
   have:=O.length_eq
   rwa[ue] at this
  refine Na (K:=K) (tl:= [u_ (.ref d)]) (λi ys H'=>∃ts:oj o3,ys=ts.map V.ref/\↑ts=i/\ic H1 H'/\H' A0=u_ (.lst ys)/\∀(j:Nat) (t:o3) (z:Str),ts[j]? =u_ t->ms[j]? =u_ z->H' t=u_ (.tup [.str z,zg vs z])) qg () ak
   ⟨[],1,1,s2.trans (qf ak _),qg,λj t z h=>by simp at h⟩ ?_ ?_
  ·rintro i z ys H' hz ⟨ts,rfl,ae,s3,hA,al⟩ _ _ _ R r;have aG:z∈ps.map (·.1):=O.mem_iff.mp (vi hz);have lk:=n9 hk hv aG
   exists 0,0,0,d,zg vs z,1,?_,(sml rfl),λt2 am=>?_
   ·have:=mJ.k (k:=UV z) (s3 _ _ ac);rwa[lk.1] at this
   ·have s4:=qf am (.tup [V.str z,zg vs z]);have aH:t2≠A0:=λe=>by rw[e,hA] at am;cases am
    refine r _ _ (s4 _ _ hA) (s4 _ _ (by assumption)) ⟨ts++ [t2],by rw[uz];rfl,by rw[uA,ae];rfl,?_,qg,?_⟩
    ·intro b o e;have nb:b≠A0:=ql (s2 _ _ e) ak;rw[qk nb];exact s4 _ _ (s3 _ _ e)
    ·intro j t z' h1 h2;rcases Gh j i with hj|hj
     ·rw[Uq ()] at h1
      have:=al j t z' h1 h2;have nb:t≠A0:=λe=>by rw[e,hA] at this;cases this
      rw[qk nb];exact s4 _ _ this
     ·have aI:j=i:=by
       have:=(Af.mp h1).1;rw[uA] at this;have:j<↑ts+1:=this;omega
      subst aI;rw[hz] at h2;cases h2;rw[Um (),ae,Nat.sub_self] at h1
      cases h1;rw[qk aH];exact qg
  ·rintro ys H2 ⟨ts,rfl,ae,s3,hA,al⟩ _;have aa:=hok.1.2;have aJ:ms.Nodup:=O.nodup_iff.mpr aa;have ax:(ms.map λz=>(z,zg vs z)).map (·.1)=ms:=by
    rw[uU];exact(Uu λ_ _=>rfl).trans (Hg ms)
   exists 5
   refine⟨A0,ms.map λz=>(z,zg vs z),1,⟨ts,hA,by rwa[ue],λj t p h1 h2=>?_⟩,by rwa[ax],by rw[ue];omega,λq2 o ao=>?_⟩
   ·rw[uN] at h2;cases h3:ms[j]? with
    |none=>rw[h3] at h2;cases h2
    |some z=>
     rw[h3] at h2;cases h2;exact al j t z h1 h3
   ·have s4:=qf ao (.frz o (.dK (iW (ms.map λz=>(z,zg vs z)))));have ay:H1 x=u_ (.ins a.qE dx []):=sm _ _ hx;have aA:=s4 _ _ (s3 _ _ ay);have nq:q2≠x:=λe=>by rw[e,s3 _ _ ay] at ao;cases ao
    exists 0,x,a.qE,dx,[],1,aA,T.QS,T.Q6,(by show 0<1000;decide)
    refine k (AV ps ms) _ ?_ ⟨dx,q2,o,ms.map λz=>(z,zg vs z),qg,by rw[qk nq];exact qg,by rw[ax,kl],?_⟩ ⟨[?_:?_],by rwa[kl],by unfold AV;rw[ue];omega⟩ (sO aa O)
    ·intro b ob e nb;rw[qk nb];exact s4 _ _ (s3 _ _ (sm _ _ e))
    ·have tk:Tk H1 (upd (upd H2 q2 (.frz o (.dK (iW (ms.map λz=>(z,zg vs z)))))) x (.ins a.qE dx (iB "by_name" (.ref q2) []))):=(s3.trans s4).tk.trans (Tk.updI aA);have aK:∀l:oj Str,(∀z∈l,z∈ps.map (·.1))->L2.IsL H1 ((AV ps l).map (·.2)) ((l.map λz=>(z,zg vs z)).map (·.2)):=by
      intro l
      induction l with
      |nil=>exact λ_=>rfl
      |cons z r ih=>exact λh=>⟨_,0,(n9 hk hv (h z (ui ..))).2,ih λy hy=>h y (uh _ hy)⟩
     exact(aK ms λz hz=>O.mem_iff.mp hz).mono tk
    ·rw[kl];exact hok.1.perm O
    ·intro p hp;exact hok.2 p ((sO aa O).mem_iff.mp hp)
def DH:Vg ("by_name":Str) [(("by_name":Str),v)]=u_ v:=by simp[Vg]
def yp:Vg ("source_of":Str) [(("by_name":Str),v)]=none:=by
 have:(("source_of":Str)=="by_name")=false:=by decide+kernel
 simp[Vg,this]
inductive Z7 (C:Addr):Sp
 |mk (x:Addr)(z:Str)(qs:List (Str×D))(_:vs= [.ref x,.str z])(_:Yb C H x qs)(_:∀v:V,(z∈qs.map (·.1)->Is H (qS qs z) v)->(z∉qs.map (·.1)->v= .non)->Q v H)
def yP:#[T,1,a.YG,a.Yu,["self","name"],(Z7 a.qE)]:=by
 refine T.ii.F.ok JV () (λ_ _ _ _ H vs Q E U h=>?_)
 erw[h,x,z,qs,rfl,[dx,d,o,vs,Z,hd,O,hv],k];exists 3,%[|#[qp,#[Ai,7,QU U,#[qO,5,pv 0,rfl],pv 1,⟨1,1,1,1⟩]]]
 exists 0,x,a.qE,dx,_,0,Z,T.QS,T.Q6,DH,d,1,.inl [_:.inr [o:hd]],0,_,.inl ⟨_,UV z,.inr [o:hd],1,1⟩;refine k _ (λc=>?_) λc=>?_
 ·exact(n9 O hv c).2
 ·rw[De (by rwa[O])]
  rfl
nonrec def Bd (zs:oj Str):D:= .tup (zs.map D.str)
nonrec def sY (acc:oj Str):oj Str->oj Str
 | []=>acc
 |z::r=>if isT (Bd (acc++ [z]))=v_ then sY (acc++ [z]) r else acc
inductive w8 (K:PySem.W.Frag):Sp
 |mk (L:Addr)(zs:List Str)(_:vs= [.ref L])(_:H L=u_ (.lst (zs.map V.str)))(_:(∀z∈zs,↑z<=100))(_:↑zs<=100)(_:∀(v:V)(H':Hp),ic H H'->Is H' (Bd (sY [] zs)) v->Q v H')
variable {xs:oj V}{Q:VK}
def AaW {K:o0}{a:o3}{x:V}(ha:H a=u_ (.tup xs))(O:↑xs+1<=UX)(k:∀p H',ic H H'->H' p=u_ (.tup (xs++ [x]))->Q (.ref p) H'):
  [x].length<=UX/\∀q,H q=US->EO K (.ref a) (.ref q) (upd H q (.tup [x])) Q:=by
 exists sml rfl,λq U=>?_;have s1:ic H (upd H q (.tup [x])):=qf U _;exists a,q,xs,[x],1,1,SqT.of (s1 _ _ ha),SqT.of qg,O,λe=>?_,(λ_ e=>by cases e),λ_ _ p Z=>?_
 ·refine k q _ s1 ?_;rw[e];exact qg
 ·exact k p _ (s1.trans (qf Z _)) qg
variable {zs:oj Str}{p:o3}
def Dr (h:H p=u_ (.tup (zs.map V.str)))(U:∀z∈zs,↑z<=100):Is H (Bd zs) (.ref p):=by
 have O:∀(zs:oj Str),(∀z∈zs,↑z<=100)->IsL H (zs.map D.str) (zs.map V.str):=by
  intro zs
  induction zs with
  |nil=>exact λ_=>rfl
  |cons z r Z=>
   intro h;exact⟨_,0,⟨1,mI (by have:=h z (ui ..);omega)⟩,Z λy hy=>h y (uh _ hy)⟩
 exact⟨p,0,h,O zs U⟩
def sX:∀(zs O:oj Str) (z:Str),z∈sY O zs->z∈O∨z∈zs
 | [],O,z,h=> .inl h
 |y::r,O,z,h=>by
  unfold sY at h;split at h
  ·rcases sX r _ z h with h|h
   ·rcases Ac.mp h with h|h
    ·exact .inl h
    ·exact .inr (by rw[Ab.mp h];exact ui ..)
   ·exact .inr (uh _ h)
  ·exact .inl h
inductive B5 (C:Addr):Sp
 |mk (x t:Addr)(kind text:Str)(qs:List (Str×D))(_:vs= [.ref x,.ref t])(_:Yb C H x qs)(_:ye qs)(_:H t=u_ (.tup [.str kind,.str text]))(_:↑text<=1000)(_:((kind="has"/\Q (.str (if text∈qs.map (·.1) then "yes" else "no")) H)∨(kind="names"/\∀(v:V)(H':Hp),ic H H'->Is H' (Bd (sY [] ((qs.map (·.1)).filter λz=>VS z text))) v->Q v H')))
def se {vs:oj (Str×V)}(O:vs.map (·.1)=qs.map (·.1))(hi:L2.IsL H (qs.map (·.2)) (vs.map (·.2)))(z:Str):(iK (iW vs) (UV z)).isSome=decide (z∈qs.map (·.1)):=by
 by_cases c:z∈qs.map (·.1)
 ·rw[(n9 O hi c).1,ud c]
  rfl
 ·rw[De (by rw[O];exact c),uf c]
  rfl
def Bj:#[T,3,a.xY,a.XL,["names"],(w8 K)]:=by
 have yE:=#[jk,T];exists 9,T.lY,yX
 erw[h,L,zs,rfl,hL,hz,hn,k];have hs:=uD;exists 3,%[#[qC,(1),yX.nd,#[qB,qd]],#[xf,#[pI,4,pv 0],#[qQ,(2),yX.nd],%[#[qG,#[Qo,#[Qd,#[qu,yE,hr.mono (),T.iV,#v[#[qY,zp,pv 1,#[qB,#v[pv 2]]]]]]],%[|ER],qw]|#[qC,(1),yX.nd,#[qY,zp,pv 1,#[qB,#v[pv 2]]]]]]|#[qp,pv 1]]
 exists (sml rfl),λq hq=>?_;have s1:ic H (upd H q (.tup [])):=qf hq _
 exists 5
 refine⟨0,L,1,[_:SqL.of (s1 _ _ hL)],AC (K:=K) (a:=L) (xs:=zs.map V.str) (λi σ H'=>∃(row:oj Str) (p:o3) (kv:om V),σ= [u_ (.ref L),u_ (.ref p),kv]/\H' p=u_ (.tup (row.map V.str))/\ic H H'/\sY row (zs.drop i)=sY [] zs/\↑row<=i/\∀z∈row,z∈zs)
  ⟨[],q,US,1,qg,s1,1,uj _,λz h=>nomatch h⟩ (λi σ H' _ ⟨_,_,_,_,_,s2,_⟩=>SqL.of (s2 _ _ hL)) ?_ ?_⟩
 ·rintro i x σ H' hi ⟨row,p,kv,rfl,Z,s2,O,hl,hm⟩;have U:i<↑zs:=by
   have:=(Af.mp hi).1
   simpa using this
  obtain rfl:x=V.str zs[i]:=by
   rw[uN,uq U] at hi;exact(uL hi).symm
  have ed:zs.drop i=zs[i]::zs.drop (i+1):=vg U;rw[ed] at O;rw[show sY row (zs[i]::zs.drop (i+1))=if isT (Bd (row++ [zs[i]]))=v_ then sY (row++ [zs[i]]) (zs.drop (i+1)) else row from rfl] at O
  have aa:∀z∈row++ [zs[i]],z∈zs:=λz h=>by
   rcases Ac.mp h with h|h
   ·exact hm z h
   ·rw[Ab.mp h];exact uY U
  have hsz:↑(row.map V.str)+1<=sizeLine:=by rw[ue];omega
  have em:row.map V.str++ [V.str zs[i]]=(row++ [zs[i]]).map V.str:=by simp
  exists 0,0,AaW Z hsz λp2 H3 s3 h3=>⟨_,Bd (row++ [zs[i]]),1,Dr (by rw[h3,em]) λz h=>hz z (aa z h),λH4 s4=>[0:?_]⟩
  cases hT:isT (Bd (row++ [zs[i]])) with
  |false=>
   rw[A4 (by rw[hT];exact uc)] at O
   refine i9 [0:k _ H4 ((s2.trans s3).trans s4) ?_];rw[<-O];exact Dr (s4 _ _ (s3 _ _ Z)) λz h=>hz z (hm z h)
  |true=>
   rw[A6 hT] at O;refine iS [0:0:AaW (s4 _ _ (s3 _ _ Z)) hsz λp5 H5 s5 h5=>?_];exact⟨row++ [zs[i]],p5,0,by rw[h5,em],((s2.trans s3).trans s4).trans s5,O,by rw[uA];show ↑row+1<=i+1;omega,aa⟩
 ·rintro σ H' ⟨row,p,kv,rfl,Z,s2,O,hl,hm⟩
  exists 0,k _ H' s2 ?_;rw[ue,List.drop_length] at O;rw[<-O];exact Dr Z λz h=>hz z (hm z h)
def nT:#[T,4,a.Yw,a.YD,["self","ask"],(B5 a.qE)]:=by
 have W0:=#[Bj,T];refine T.iC.F.ok JY () (λ_ _ _ _ H vs Q E hr h=>?_)
 erw[h,x,t,kind,text,qs,rfl,[dx,d,o,vs,hx,hd,hk,hv],U,Z,ad,h];have hs:=uD;exists 3,%[#[qG,#[qr,Qq,#[qI,qF,pv 1,qh],qj],%[|#[qp,#[Q4,#[pt_cmp,#[Aj,5,QU hr,#[qI,qF,pv 1,qh],#[qO,5,pv 0,rfl]]],qj,qj]]],qw]|#[qp,#[qu,W0,hr.mono (),T.lY,#v[#[xG,["name","ask"],[1],Ky (qi QO) ["self","ask"],#[Mf,4,#[qO,5,pv 0,rfl]],(λ_ _ _ _ _ _=>#[qQ,(0),(show Vd (["name","ask"]:oj Str) by decide+kernel)]),(λ_ _ _ _ _ _=>#[pH,3,#[Qd,#[OT,1,K,11,rfl,uS,PySem.F.slot_str_startswith,PySem.F.type_str_startswith,C8,pv 0,#v[#[qI,#[pY,1,K,rfl],pv 1,qh]],_,_,_,_,_]]]),(λ_ _ _ _ _ _=>(pv 0))]]]]]
 exists 0,t,_,_,0,1,SqT.of Z,1,1,0;rcases h with⟨rfl,k⟩|⟨rfl,k⟩
 ·refine lP (ud rfl) ?_
  exists 0,t,_,_,0,1,SqT.of Z,1,0,x,a.qE,dx,_,0,hx,T.QS,T.Q6,DH,d,0,.inl ⟨_,UV text,.inr [o:hd],1,1⟩,0;rw[se hk hv];by_cases c:text∈qs.map (·.1)
  ·rw[A6 c] at k;exact lP (ud c) k
  ·rw[A4 c] at k;exact lr (uf c) k
 ·refine lr () ?_
  have O:(iW vs).map (·.1)=(qs.map (·.1)).map Sum.inr:=by rw[wn,hk]
  exists 0,x,a.qE,dx,_,0,hx,T.QS,T.Q6,DH,d,o,0,hd,λA0 aa=>?_;refine Nc (tl:= [u_ (.ref t)]) (λz=>VS z text) V.str hd O (by rw[ue];have:=U.2.2;omega) aa (λz H1 R hz s1 r=>?_) (λz H1 R hz s1 r=>[0:r]) λH1 s1 h1=>?_
  ·exact⟨0,1,0,t,_,_,0,1,SqT.of (s1 _ _ Z),1,z,text,1,1,0,r⟩
  ·exists A0,0,h1,λz hz=>?_,?_,λv H2 s2 ac=>k v H2 (s1.trans s2) ac
   ·have:=WY (U.1.1.1 z (List.mem_filter.mp hz).1);omega
   ·have:=tJ (λz=>VS z text) (qs.map (·.1));rw[ue] at this;have:=U.2.2;omega
nonrec def Yz:D->Bool
 | .non=>v_
 |_=>UT
nonrec def Zd:D->D
 | .tup [_,d]=>d
 |d=>d
nonrec def zl (d:D):Prop:=d= .non∨isT d=v_
nonrec def Gd (d:D):Prop:=iL d=v_/\dp d<=20
def Py:∀z∈(["kind","big","told","silent","long","name"]:oj Str),iL (flt z)=true:=by decide+kernel
def KO (h:z∈(["kind","big","told","silent","long","name"]:oj Str)):Gd (flt z):=⟨Py z h,by show dp (.tup [.str "fault",.str z])<=20;simp[dp,dpL]⟩
def Px {u:Str}{d:D}(O:Qs u=v_)(h:isT d=v_):Gd (.tup [.str u,d]):=by
 have U:=QY h;have hd:=x9 h;exists ?_,?_
 ·simp![iL,goodL,O,U,vU]
  rfl
 ·simp![dp,dpL];omega
def Ax {u w:Str}{d:D}(O:Qs u=v_)(U:Qs w=v_)(h:isT d=v_):Gd (.tup [.str u,.tup [.str w,d]]):=by
 have Z:=QY h;have hd:=x9 h;exists ?_,?_
 ·simp![iL,goodL,O,U,Z,vU]
  rfl
 ·simp![dp,dpL];omega
def L3 {B:Str->D}{p:Int}(hr:jU n 300 r)(h:Tr B)(O:mo own r B p= .stop e):Gd e:=by
 unfold mo at O;erw[id hr,ks,hk,hp];erw[r,U,ps];by_cases c1:U∈MKR
 ·rw[A6 c1] at O;simp only at O;generalize made U B own ps=dm at O;have aa:(if isT dm=v_ then Out.go (sT B (b0 ps) dm) (p+1) else .stop (flt "big"))= .stop e->Gd e:=by
   intro hq;by_cases c:isT dm=v_
   ·rw[A6 c] at hq;cases hq
   ·rw[A4 c] at hq;cases hq;exact KO ()
  cases dm with
  |non=>cases O;exact KO ()
  |_=>exact aa O
 rw[A4 c1] at O;by_cases c2:U∈ASK
 ·rw[A6 c2] at O;cases O;erw[ZK _ hk c2,_,_,Z];simp only at Z;subst Z;erw[Z0 hp,z0,z1,rfl,h0,h1];have hT:=h z1 h1;show Gd (oY U (B z1));unfold oY;by_cases d1:U="names"
  ·rw[A6 d1];by_cases d2:isStr (B z1)=v_
   ·rw[A6 d2];exact Ax () () hT
   ·rw[A4 d2];exact KO ()
  ·rw[A4 d1];by_cases d2:mx (B z1)=v_
   ·rw[A6 d2];refine Ax () ?_ hT
    split<;>decide+kernel
   ·rw[A4 d2];exact KO ()
 rw[A4 c2] at O;by_cases c3:U="say"
 ·rw[A6 c3] at O;cases O;subst c3;have Z:=sj _ hk rfl;simp only at Z;subst Z;erw[SR hp,z0,rfl,h0];exact Px () (h z0 h0)
 rw[A4 c3] at O;by_cases c4:U="fault"
 ·rw[A6 c4] at O;cases O;exact KO ()
 rw[A4 c4] at O;by_cases c5:KC U B ps=v_
 ·rw[A6 c5] at O;cases O
 ·rw[A4 c5] at O;cases O
nonrec def mt (rs:oj Rw)(own:Str)(r:Rn)(a:D):Rn:=if Yz a=v_ then⟨r.B,r.p,r.n+1,r.gs++ [.tup [Zd r.th,a]],flt "lack"⟩ else mw rs own (r.gs++ [.tup [Zd r.th,a]]) (300-(r.n+1)) (sT r.B (b0 (jT rs r.p).2) a) (r.p+1) (r.n+1)
structure KZ (rs:oj Rw)(r:Rn):Prop where
 tr:Tr r.B
 p1:1<=r.p
 p2:r.p<=↑rs+1
 n:r.n<=300
 gd:Gd r.th
 two:∃w e,r.th= .tup [.str w,e]
 gs:nL r.gs=v_/\dpL r.gs<=30/\↑r.gs<=r.n
 ask:QJ r.th=v_->r.p<=↑rs/\(jT rs r.p).1∈ASK/\r.n<300/\∃(u:Str) (d:D),r.th= .tup [.str "asks",.tup [.str u,d]]/\u∈(["thing","has","names"]:oj Str)/\isT d=v_
mutual
theorem WD:∀{d:D},iL d=v_->nD d=v_
 | .str _,_=>rfl
 | .tup xs,h=>by
  simp![iL,uC] at h;simp![nD];exact goodL_n h.2
 | .non,h=>by simp[iL] at h
 | .bl _,h=>by simp[iL] at h
 | .int _,h=>by simp[iL] at h
 | .lst,h=>by simp[iL] at h
 | .dct,h=>by simp[iL] at h
theorem goodL_n:∀{ds:oj D},goodL ds=v_->nL ds=v_
 | [],_=>rfl
 |d::ds,h=>by
  simp![goodL,uC] at h;simp![nL];rw[WD h.1,goodL_n h.2]
  rfl
end
def Ap:∀{xs ys:oj D},nL xs=v_->nL ys=v_->nL (xs++ys)=v_
 | [],_,_,h=>h
 |x::xs,ys,h,h2=>by
  simp![nL,uC] at h;simp![Ur,nL];rw[h.1,Ap h.2 h2]
  rfl
def su (n:Nat){xs ys:oj D}(h:dpL xs<=n)(h2:dpL ys<=n):dpL (xs++ys)<=n:=by
 rw[wm] at h h2⊢;intro x O;rcases Ac.mp O with O|O
 ·exact h x O
 ·exact h2 x O
def EN {B:Str->D}{p:Int}(hr:jU n 300 r)(h:Tr B)(O:mo own r B p= .stop e)(U:QJ e=v_):r.1∈ASK/\∃(u:Str) (d:D),e= .tup [.str "asks",.tup [.str u,d]]/\u∈(["thing","has","names"]:oj Str)/\isT d=true:=by
 unfold mo at O;erw[id hr,ks,hk,hp];erw[r,Z,ps];by_cases c1:Z∈MKR
 ·rw[A6 c1] at O;simp only at O;generalize made Z B own ps=dm at O;have aa:(if isT dm=v_ then Out.go (sT B (b0 ps) dm) (p+1) else .stop (flt "big"))= .stop e->False:=by
   intro hq;by_cases c:isT dm=v_
   ·rw[A6 c] at hq;cases hq
   ·rw[A4 c] at hq;cases hq;exact A8 U ()
  cases dm with
  |non=>cases O;exact A8 U ()
  |_=>exact(aa O).elim
 rw[A4 c1] at O;by_cases c2:Z∈ASK
 ·rw[A6 c2] at O;cases O;exists c2;erw[ZK _ hk c2,_,_,ek];simp only at ek;subst ek;erw[Z0 hp,z0,z1,rfl,h0,h1];have hT:=h z1 h1;have U:QJ (oY Z (B z1))=true:=U;show∃u d,oY Z (B z1)=_/\_;unfold oY at U⊢;by_cases d1:Z="names"
  ·rw[A6 d1] at U⊢;by_cases d2:isStr (B z1)=v_
   ·rw[A6 d2];exact⟨_,0,(),hT⟩
   ·rw[A4 d2] at U;exact A8 U ()
  ·rw[A4 d1] at U⊢;by_cases d2:mx (B z1)=v_
   ·rw[A6 d2];exact⟨_,0,by split<;>decide+kernel,hT⟩
   ·rw[A4 d2] at U;exact A8 U ()
 rw[A4 c2] at O;by_cases c3:Z="say"
 ·rw[A6 c3] at O;cases O;exact A8 U (by simp![QJ];exact λh=>A8 (uu h) ())
 rw[A4 c3] at O;by_cases c4:Z="fault"
 ·rw[A6 c4] at O;cases O;exact A8 U ()
 rw[A4 c4] at O;by_cases c5:KC Z B ps=v_
 ·rw[A6 c5] at O;cases O
 ·rw[A4 c5] at O;cases O
def pD {rs:oj Rw}{own:Str}(hR:ya rs):∀(f:Nat) (B:Str->D) (p:Int) (n:Nat) (gs:oj D),f+n=300->Tr B->1<=p->p<=↑rs+1->nL gs=v_/\dpL gs<=30/\↑gs<=n->KZ rs (mw rs own gs f B p n)
 |0,B,p,n,gs,hf,hT,h1,h2,hg=>by
  have U:QJ (if p>↑rs then flt "silent" else flt "long")=false:=by split<;>decide+kernel
  refine⟨hT,h1,h2,by show n<=300;omega,?_,?_,hg,λh=>A8 (U.symm.trans h) ()⟩
  ·show Gd (if p>↑rs then flt "silent" else flt "long")
   split
   ·exact KO ()
   ·exact KO ()
  ·show∃w e,(if p>↑rs then flt "silent" else flt "long")=_
   split
   ·exact[_:0]
   ·exact[_:0]
 |f+1,B,p,n,gs,hf,hT,h1,h2,hg=>by
  unfold mw;by_cases c:p>↑rs
  ·rw[A6 c];exact⟨hT,h1,h2,by show n<=300;omega,KO (),[_:0],hg,λh=>A8 h (show¬QJ (flt "silent")=v_ by decide+kernel)⟩
  ·rw[A4 c];have O:=hR.ok _ (ke h1 ())
   have hok:=pF (own:=own) O hT h1 ()
   cases Z:mo own (jT rs p) B p with
   |go B' p'=>
    rw[Z] at hok;exact pD hR f B' p' (n+1) gs () hok.1 hok.2.1 hok.2.2 ⟨hg.1,hg.2.1,by have:=hg.2.2;omega⟩
   |stop e=>
    rw[Z] at hok;simp only;exists hT,h1,h2,?_,L3 O hT Z,hok,[hg.1:hg.2.1:?_],λU=>?_
    ·show(if QJ e=v_ then n else n+1)<=300
     split<;>omega
    ·show ↑gs<=(if QJ e=v_ then n else n+1)
     have:=hg.2.2;split<;>omega
    ·erw[EN O hT Z U,a1,u,d,a2,a3,a4];refine⟨by show p<=↑rs;omega,a1,?_,u,d,a2,a3,a4⟩
     show(if QJ e=v_ then n else n+1)<300
     rw[A6 (show QJ e=v_ from U)]
     omega
def Eb (Z:ya rs){r:Rn}{a:D}(h:KZ rs r)(hw:QJ r.th=v_)(ha:zl a):KZ rs (mt rs own r a):=by
 erw[h.ask hw,k1,k2,k3,u,d,e,k4,k5];have O:nD a=v_/\dp a<=12:=by
  rcases ha with rfl|ha
  ·exact⟨1,by simp[dp]⟩
  ·exact[WD (QY ha):x9 ha]
 have aa:=x9 k5;have U:nL (r.gs++ [D.tup [Zd r.th,a]])=v_/\dpL (r.gs++ [D.tup [Zd r.th,a]])<=30/\↑(r.gs++ [D.tup [Zd r.th,a]])<=r.n+1:=by
  rw[e];show nL (r.gs++ [.tup [.tup [.str u,d],a]])=v_/\_;exists Ap h.gs.1 ?_,su 30 h.gs.2.1 ?_,?_
  ·simp![nL,nD,WD (QY k5),O.1,vU]
  ·show dpL [.tup [.tup [.str u,d],a]]<=30;simp![dpL,dp];have:=O.2;omega
  ·rw[uA];have:=h.gs.2.2;show ↑r.gs+1<=r.n+1;omega
 unfold mt;cases hn:Yz a with
 |true=>
  rw[A6 rfl];exact⟨h.tr,h.p1,h.p2,by show r.n+1<=300;omega,⟨(by decide+kernel:iL (flt "lack")=v_),by show dp (.tup [.str "fault",.str "lack"])<=20;simp[dp,dpL]⟩,[_:0],U,λh=>A8 h (show¬QJ (flt "lack")=v_ by decide+kernel)⟩
 |false=>
  rw[A4 uc];have hT:isT a=true:=by
   rcases ha with rfl|ha
   ·cases hn
   ·exact ha
  refine pD Z _ _ _ _ _ () (Kc h.tr hT) (by have:=h.p1;omega) () U
def JC {d:D}{u:V}(O:Is H d u)(U:d≠ .non):u≠ .non:=by
 rintro rfl;cases d with
 |non=>exact U rfl
 |bl b=>cases(show V.non= .bl b from O)
 |int i=>cases(show V.non= .int i from O)
 |str z=>erw[O,h,_];cases h
 |lst=>erw[O,_,_,h,_];cases h
 |dct=>erw[O,_,_,h,_];cases h
 |tup xs=>erw[O,_,_,h,_];cases h
def PV (O:jU n 300 r)(hs:r.1∈ASK):∃U z1,r.2= [.s U,.s z1]/\U∈BX:=by
 erw[id O,ks,hk,hp];erw[ZK _ hk hs,_,_,Z];simp only at Z;subst Z;erw[Z0 hp,x,y,e,hx,hy];exact⟨x,y,e,hx⟩
nonrec def IA:D->Bool
 | .tup xs=>xs.all mx
 |_=>UT
nonrec def AQ (u:Str)(a:D):Bool:=if Yz a=v_ then decide (u="thing") else if isT a=v_ then(if u="has" then(["yes","no"]:oj Str).any (λz=>eqD a (.str z)) else decide (u="thing")||IA a) else UT
def Ec {u:Str}{a:D}(h:AQ u a=v_):zl a:=by
 unfold AQ at h;cases hn:Yz a with
 |true=>
  cases a with
  |non=>exact .inl rfl
  |_=>cases hn
 |false=>
  rw[hn,A4 uc] at h;by_cases c:isT a=v_
  ·exact .inr c
  ·rw[A4 c] at h;cases h
inductive Lw:Sp
 |mk (v:V)(d:D)(_:vs= [v])(_:Is H d v)(_:isT d=v_)(_:∀H',ic H H'->Q (.bl (IA d)) H')
inductive EC:Sp
 |mk (v1 v2:V)(u:Str)(d a:D)(_:vs= [v1,v2])(_:Is H (.tup [.str u,d]) v1)(_:Is H a v2)(_:∀H',ic H H'->Q (.bl (AQ u a)) H')
inductive Oy (C:Addr):Sp
 |mk (m:Mc)(r:Rn)(v:V)(u:Str)(d a:D)(_:vs= [.ref m.x,v])(_:yd C H m r)(_:KZ m.rs r)(_:r.th= .tup [.str "asks",.tup [.str u,d]])(_:Is H a v)(_:ya m.rs)(_:↑m.own<=100)(_:AQ u a=v_)(_:∀H',Mv m H H'->yd C H' m (mt m.rs m.own r a)->Q .non H')
def Mw:#[T,2,a.jf,a.jj,["tree"],Lw]:=by
 have Q0:=#[zf,T];refine T.ll.F.ok XN () (λ_ _ _ _ H vs Q E hr h=>?_)
 erw[h,v,d,rfl,iv,hT,k];exists 3,%[|#[qp,#[pe_and,#[qy,#[qV,2,rfl],T.qT,uV,#v[pv 0,#[Q1,.ty "tuple",T.Q8,vE]]],#[Wv,#[qy,#[Zs,1,rfl],T.z_all,tm,#v[#[xG,["part"],[],Kz,#[X7,pv 0],(λ_ _ _ _ _ _=>#[qQ,(0),(show Vd (["part"]:oj Str) by decide+kernel)]),(λ_ _ _ _ _ _=> @yM _),(λ_ _ _ _ _ _=>#[qu,Q0,hr.mono (),T.iH,#v[pv 0]])]]]]]]]
 exists 0,v,"tuple",tyD d,X6 d,1,iv.ty,xn _;cases d with
 |tup xs=>
  exists 0,i9 ?_;erw[iv,a0,vs,rfl,O,U];have hl:↑xs<=1000:=by
   have hg:=QY hT;simp![iL,uC] at hg;have:=uu hg.1;omega
  exists 0,a0,vs,1,SqT.of O,λaa A0 Z=>?_;refine pW (tl:= []) (λd=> .bl (mx d)) O U (yr hl) Z (λd0 x0 H3 R ac s3 i3 r=>?_) λH1 ys s1 l1 i1=>?_
  ·exact⟨0,x0,d0,1,i3,λH4 s4=>r _ H4 s4 rfl⟩
  have ey:ys=(xs.map mx).map V.bl:=IsL.bls (by rwa[uU])
  exists A0,xs.map mx,1,SqL.of (by rw[l1,ey])
  have:(xs.map mx).all id=IA (.tup xs):=by rw[Uw];rfl
  rw[this];exact k H1 s1
 |str z=>exact[0:iS (k H (ic.refl _))]
 |non=>exact[0:iS (k H (ic.refl _))]
 |int z=>exact[0:iS (k H (ic.refl _))]
 |bl z=>exact[0:iS (k H (ic.refl _))]
 |lst=>exact[0:iS (k H (ic.refl _))]
 |dct=>exact[0:iS (k H (ic.refl _))]
def E9:#[T,3,a.ZA,a.Z3,["ask","answer"],EC]:=by
 have yE:=#[jk,T];have XS:=#[Mw,T];exists 9,T.mF,nB,Z
 erw[h,v1,v2,u,d,an,rfl,i1,U,k];exists 3,%[#[qG,#[qr,yL,pv 1,qP],%[|#[qp,#[yT,Qq,#[qI,Jl,pv 0,qh],qj,qA _]]],qw],#[qG,#[Qo,#[Qd,#[qu,yE,Z.mono (),T.iV,#v[pv 1]]]],%[|#[qp,jw]],qw],#[qG,#[qr,Qq,#[qI,Jl,pv 0,qh],qj],%[|#[qp,#[yT,#[Kq,1,Z.units],pv 1,#[qB,#v[qj,qj]],#[w]]]],qw]|#[qp,#[S4,7,#[yT,Qq,#[qI,Jl,pv 0,qh],qj,qA _],#[Wv,#[qu,XS,Z.mono (),T.ll,#v[pv 1]]]]]]
 have two:(2:Nat)<=sizeLine:=by decide
 have es:∀y:Str,decide (V.str u=V.str y)=decide (u=y):=λy=>by
  rw[uX];exact⟨λh=>by injection h,λh=>by rw[h]⟩
 have iu:∀{H:Hp}{Q:VK},Is H (.tup [.str u,d]) v1->Q (.str u) H->Kj K v1 (.int 0) H Q:=λ{H Q} i q=>xy (i:=0) (d:= .str u) i (qU (j:=0) rfl) λx hx=>by
  erw[hx,rfl,_];exact q
 exists 0,1,0;unfold AQ at k;by_cases cn:an= .non
 ·subst cn;cases(show v2= .non from U)
  refine QG () ?_
  exists 0,.inr (.inl (iu i1 [1:?_]));rw[es];exact k H (ic.refl _)
 ·have aa:v2≠ .non:=JC U cn;have ac:Yz an=false:=by
   cases an with
   |non=>exact A8 rfl cn
   |_=>rfl
  rw[ac,A4 uc] at k;refine Qp (uf aa) ?_
  exists 0,v2,an,1,U,λH1 s1=>[0:?_];by_cases O:isT an=v_
  ·rw[A6 O] at k;rw[O];refine iS ?_
   exists 0,.inr (.inl (iu (i1.mono s1.tk) [1:0:?_]));rw[es];by_cases ch:u="has"
   ·rw[A6 ch] at k;refine QG (ud ch) ?_
    exists 0,two,λt1 h1=>?_;have s2:=qf h1 (.tup [.str "yes",.str "no"])
    exists an,t1,["yes","no"],(U.mono s1.tk).mono s2.tk,1,.inr (SqT.of qg),?_,?_,?_,k _ (s1.trans s2)
    ·intro z hz;simp![uG,vf,uO] at hz;rcases hz with rfl|rfl<;>decide+kernel
    ·have hg:=QY O;cases an with
     |non=>rfl
     |str z=>rfl
     |tup xs=>
      show puL xs=v_;simp![iL,uC] at hg;exact goodL_pu hg.2
     |_=>simp[iL] at hg
    ·have:=x9 O;omega
   ·rw[A4 ch] at k;refine Qp (uf ch) ?_
    exists 0,.inr (.inl (iu (i1.mono s1.tk) [1:?_]))
    exists 0;rw[es];by_cases ct:u="thing"
    ·rw[ud ct] at k⊢;refine i9 ?_;exact k _ s1
    ·rw[uf ct] at k⊢;refine iS ?_;exact⟨0,v2,an,1,U.mono s1.tk,O,λH2 s2=>k H2 (s1.trans s2)⟩
  ·rw[A4 O] at k;have:isT an=false:=by
    cases h:isT an with
    |true=>exact A8 h O
    |false=>rfl
   rw[this];exact i9 (k _ s1)
def Ks:#[C,6,a.jM,a.jP,["self","tree"],(Oy a.qm)]:=by
 have Qm:=#[pO,T];have O:=#[E9,T];have YI:=#[CT,T,C];exists 9,T.iJ,jd
 erw[h,m,[B,p,n,gs,th],v,u,d,an,rfl,M,hO,al,iv,hR,aP,am,k];exists 3,%[#[qG,#[Qo,#[Qd,#[QA,pv 0,T.qt,T.il,Qm]]],%[|ju],qw],#[qC,(2),jd.nd,#[qI,Jl,#[qO,5,pv 0,rfl],qh]],#[qG,#[Qo,#[Qd,#[qu,O,hr.mono (),T.mF,#v[pv 2,pv 1]]]],%[|ju],qw],#[qZ,#[jY,vc,vL,vM,jc,#[qO,5,pv 0,rfl],#v[#[qB,#v[pv 2,pv 1]]]]],#[JB,10,pv 0,qh,oB],#[qG,#[qr,yL,pv 1,qP],%[#[Qc,#[qB,#v[qj,qj]]]|L9],qw],#[Jp,#[qO,5,pv 0,rfl],#[qI,Jl,#[qI,Jl,#[qI,qF,#[qO,5,pv 0,rfl],#[qY,Ko,#[qO,5,pv 0,rfl],qh]],qh],qh],pv 1],#[JB,10,pv 0,qh,oB],#[Qc,qP]|#[qZ,#[QA,pv 0,T.qt,T.iN,YI]]]
 simp only at al;subst al;have two:(2:Nat)<=sizeLine:=by decide
 have hw:QJ (.tup [.str "asks",.tup [.str u,d]])=true:=by simp[QJ]
 erw[hO.ask hw,af,ad,aQ,_];have ag:=hO.p1;have ao:=hO.gs.2.2;have ap:=hO.tr;simp only at af ad aQ ag ao ap;have hM:=M;erw[hM,dx,fs,rv,ru,tv,gv,e,f,ir,ij,ib,hg,gl,it];simp only at f ib gl it;have aR:↑fs<1000:=by have:=f.len;omega
 exists 8,N1,q1
 exists 0,m.x,dx,fs,1,e,f.meth _ (),m,0,M,.inr [_:0],0
 refine Qp (by show(!QJ (.tup [.str "asks",.tup [.str u,d]]))=UT;rw[hw];rfl) ?_
 refine q1 _ _ ?_;exists 8,N2,q2
 exists 0,m.x,_,dx,fs,0,e,T.qt,T.qM,f.there,.inr (.inl (xy (i:=1) it (qU (j:=1) rfl) λq hq=>?_));refine q2 _ _ ?_;exists 8,N3,q3
 exists 0,0,q,v,u,d,an,1,hq,iv,λH1 s1=>[0:?_];rw[am];refine iS ?_;refine q3 _ _ ?_;exists 8,N4,q4;have ha:=Ec am
 exists 0,m.x,_,dx,fs,0,s1 _ _ e,T.qt,T.YF,f.given,.inl [1:_:SqL.of (s1 _ _ hg)],0,0,two,λt1 h1=>?_;have s2:=qf h1 (.tup [q,v]);have ip:Is (upd H1 t1 (.tup [q,v])) (.tup [.tup [.str u,d],an]) (.ref t1):=Is.new (ds:= [.tup [.str u,d],an]) ⟨_,0,hq.mono s1.tk,_,0,iv.mono s1.tk,1⟩ h1;have S2:=s1.trans s2;generalize upd H1 t1 (.tup [q,v])=H2 at s2 ip S2⊢;have bf:↑gv=↑gs:=↑gl;have aq:=S2 _ _ hg
 exists m.dg,gv,0,1,aq,Xo ()
 have t3:Tk H2 (upd H2 m.dg (.lst (gv++ [.ref t1]))):=Tk.updL aq;have aS:m.x≠m.dg:=λz=>by rw[<-z,e] at hg;cases hg
 have au:m.db≠m.dg:=λz=>by
  erw[ib,ff,e2,_];rw[z,hg] at e2;cases e2
 have e3:(upd H2 m.dg (.lst (gv++ [.ref t1]))) m.x=u_ (.ins a.qm dx fs):=by rw[qk aS];exact S2 _ _ e
 have T3:Tk H (upd H2 m.dg (.lst (gv++ [.ref t1]))):=S2.tk.trans t3;have aw:=(ib.same S2).move t3 (qk au);have ax:L2.IsL (upd H2 m.dg (.lst (gv++ [.ref t1]))) (gs++ [.tup [.tup [.str u,d],an]]) (gv++ [.ref t1]):=(gl.mono T3).append (IsL.one (ip.mono t3));have ay:(upd H2 m.dg (.lst (gv++ [.ref t1]))) m.dg=u_ (.lst (gv++ [.ref t1])):=qg;have aA:Mv m H (upd H2 m.dg (.lst (gv++ [.ref t1]))):=⟨λb o h _ _ n3=>by rw[qk n3];exact S2 b o h,T3⟩
 generalize upd H2 m.dg (.lst (gv++ [.ref t1]))=H3 at t3 e3 T3 aw ax ay aA⊢;refine q4 _ _ ?_;exists 8,N5,q5
 exists 0,m.x,_,dx,fs,0,e3,T.qt,T.yc,f.done,(n:Int),(1),1,1,dx,fs,e3,aR;erw[yh (r:=⟨B,p,n+1,gs++ [.tup [.tup [.str u,d],an]],.tup [.str "asks",.tup [.str u,d]]⟩) e3 (f.set_done (k:=n+1)) (ir.mono T3) (ij.mono T3) aw ay ax (it.mono T3),M4,aB];have aa:=aA.trans aB;have aC:=iv.mono aa.tk;refine q5 _ _ ?_;show mQ _ _ _ _ (upd H3 m.x (.ins a.qm dx (iB "done" (.int ((n+1:Nat):Int)) fs)));generalize upd H3 m.x (.ins a.qm dx (iB "done" (.int ((n+1:Nat):Int)) fs))=H4 at M4 aB aa aC⊢;erw[M4,Z,U,bg,bh,bo,bp,e4,f4,ah,aD,ac,aE,ak,aF];simp only at f4 ac ak aF;have ae:↑U<1000:=by have:=f4.len;omega
 exists 8,N6,q6
 exists 0,1,0;by_cases cn:an= .non
 ·subst cn;cases(show v= .non from iv)
  refine QG () ?_
  exists two,λl hl=>?_;have s5:=qf hl (.tup [.str "fault",.str "lack"])
  exists 0,m.x,_,Z,U,1,s5 _ _ e4,T.qt,T.qM,ae;erw[yh (r:=⟨B,p,n+1,gs++ [.tup [.tup [.str u,d],.non]],flt "lack"⟩) (s5 _ _ e4) (f4.set_there (u:= .ref l)) (ah.mono s5.tk) (aD.mono s5.tk) (ac.same s5) (s5 _ _ aE) (ak.mono s5.tk) (Is.new (ds:= [.str "fault",.str "lack"]) ⟨_,0,[1:yr ()],_,0,[1:yr ()],1⟩ hl),m1,m2]
  exact k _ (aa.trans ((Mv.of s5).trans m2)) m1
 ·have hT:isT an=true:=ha.resolve_left cn;have aT:v≠ .non:=JC iv cn;have aU:Yz an=false:=by
   cases an with
   |non=>exact A8 rfl cn
   |_=>rfl
  refine Qp (uf aT) ?_;refine q6 _ _ ?_;exists 8,N7,q7;erw[PV (hR.ok _ (ke ag af)) ad,z0,z1,aG,aV];have aW:b0 (jT m.rs p).2=z0:=by rw[aG];rfl
  erw[ac.put aV aC,kvs,aH,aX,t5];have aY:atI (m.rs.map rowD) (p-1)=u_ (rowD (jT m.rs p)):=by
   rw[show p-1=((p.toNat-1:Nat):Int) by omega]
   exact qU (by rw[uN,Ch ag af];rfl)
  have aZ:m.db≠m.x:=Ys.ne e4 ac;have a1:m.dg≠m.db:=au.symm
  exists 0,0,m.x,_,Z,U,0,e4,T.qt,T.Qv,f4.boxes,0,m.x,_,Z,U,0,e4,T.qt,T.yY,f4.rows,0,m.x,_,Z,U,0,e4,T.qt,T.Qi,f4.place,_,0,1;refine xy (d:=rowD (jT m.rs p)) ah aY λq5 a3=>?_;refine .inr (.inl (xy (i:=1) a3 (qU (j:=1) rfl) λq6 aI=>?_));rw[aG] at aI;refine .inr (.inl (xy (i:=0) (d:= .str z0) aI (qU (j:=0) rfl) λq7 a4=>?_));erw[a4,rfl,_]
  exists m.db,0,aH;have e5:(upd H4 m.db (.dK kvs)) m.x=u_ (.ins a.qm Z U):=by rwa[qk aZ.symm]
  refine q7 _ _ ?_;exists 8,N8,q8
  exists 0,m.x,_,Z,U,0,e5,T.qt,T.Qi,f4.place,p,(1),1,1,Z,U,e5,ae;obtain⟨M6,a5⟩:=yh (r:=⟨sT B z0 an,p+1,n+1,gs++ [.tup [.tup [.str u,d],an]],.tup [.str "asks",.tup [.str u,d]]⟩) e5 (f4.set_place (q:=p+1)) (ah.mono t5) (aD.mono t5) aX (by rwa[qk a1]) (ak.mono t5) (aF.mono t5)
  have aJ:=aa.trans (Mv.trans ⟨λb o h _ a2 _=>by rwa[qk a2],t5⟩ a5)
  erw[M6,a6,aK,bq,bt,bu,bv,e6,f6,a7,a8,aL,a9,aM,ba];simp only at f6 aL aM ba;have aN:↑aK<1000:=by have:=f6.len;omega
  refine q8 _ _ ?_;exists 8,N9,q9
  exists 0,m.x,_,a6,aK,1,e6,T.qt,T.qM,aN;erw[yh (r:=⟨sT B z0 an,p+1,n+1,gs++ [.tup [.tup [.str u,d],an]],.non⟩) e6 (f6.set_there (u:= .non)) a7 a8 aL a9 aM rfl,M7,bb];have aO:=aJ.trans bb;erw[id M7,bc,bd,bw,bx,bA,bB,e7,f7,r7];refine q9 _ _ ?_
  exists 5
  refine⟨0,m.x,bc,bd,1,e7,f7.meth _ (),m,0,M7,1,Kc ap hT,aP,hR,by show 1<=p+1;omega,by show p+1<=_;omega,by show n+1<=300;omega,λH8 be M8=>k H8 (aO.trans be) ?_⟩
  unfold mt;rw[aU,A4 uc];simp only;rw[aW];exact M8
nonrec def lX (H:Hp)(p:o3):Prop:=∃x:Int,H p=u_ (.lst [.int x])/\0<=x
def lX.same (h:lX H p)(s:ic H H'):lX H' p:=by
 erw[h,x,e,r];exact[x:s _ _ e:r]
def lX.free {l:o3}(h:lX H p)(n:H l=US):p≠l:=by
 erw[h,x,e,r];exact ql e n
def lX.tk (h:lX H p)(h':lX H' p)(k:iR p H H'):Tk H H':=by
 erw[h,x,e,_];erw[h',U,O,_];exact k.tk e O
inductive Ls:Sp
 |mk (p:Addr)(many:Int)(_:vs= [.ref p,.int many])(_:lX H p)(_:0<many)(_:many<1073741824)(_:∀(d:Int)(H':Hp),0<=d->d<many->lX H' p->iR p H H'->Q (.int d) H')
inductive Ly:Sp
 |mk (c t:Int)(_:vs= [.int c,.int t])(_:0<=t)(_:t<1000)(_:∀(p:Addr)(H':Hp),H p=US->ic H H'->lX H' p->Q (.ref p) H')
def Y4:#[T,1,a.Wk,a.WR,["pot","many"],Ls]:=by
 exists 9,T.ig,wp
 erw[h,p,many,rfl,[x,O,Z],hm,U,k];exists 3,%[#[qC,(2),wp.nd,#[qY,Xc,#[qI,yi,pv 0,qh],pv 1]],#[ZH,#[qY,pL,#[qI,yi,pv 0,qh],pv 1],#[OP,7,pv 0,qh,EL,_]]|#[qp,pv 2]]
 exists 0,p,_,_,0,1,SqL.of O,1,0,_,0,1,hm
 exists 0,p,_,_,0,1,SqL.of O,1,0,_,0,1,[hm:U],0,p,_,_,0,1,O,1
 exists 0;refine k _ _ (Ui _ ()) (vZ _ hm) [x/many:qg:Int.ediv_nonneg Z ()] (iR.upd _ _ _)
def pP:#[T,1,a.f_law_pot,a.d_law_pot,["cell","salt"],Ly]:=by
 exists 9,T.lV,Yt
 erw[h,c,t,rfl,h0,h1,k];exists 3,%[#[qG,#[qr,S6,#[qy,AN,T.z_abs,boot_abs,#v[pv 0]],#[qY,OW,qh,qh]],%[|#[qp,#[QF,#v[#[qy,AN,T.z_abs,boot_abs,#v[pv 0]]]]]],qw],#[qC,(2),Yt.nd,#[qY,Xc,#[qY,nS,#[qY,yJ,#[qY,yJ,#[qY,Xc,pv 0,qh],#[qY,nS,qh,pv 1]],qh],qh],qh]],#[qC,(3),Yt.nd,qh],#[xf,#[Yy,#v[qh]],#[qQ,(4),Yt.nd],%[#[qC,(2),Yt.nd,#[qY,Xc,#[qY,yJ,#[qY,yJ,#[qY,nS,pv 2,pv 2],#[qY,nS,qh,pv 4]],qh],qh]]|#[qC,(3),Yt.nd,#[qY,yJ,#[qY,nS,pv 3,qh],pv 2]]]]|#[qp,#[QF,#v[pv 3]]]]
 exists 0,0,_,0,1,[():():()],_,0,1,0
 refine lI (λ_=>?_) (λ_=>?_)
 ·exists 0,0,(sml rfl),λp O=>?_;refine k p _ O (qf O _) [_:qg:?_];split<;>omega
 ·exists 0,_,0,1,(by show(0:Int)<2147483647;decide),0,_,0,1,(.inl [():()]),_,0,1,_,0,1,_,0,1,(.inr [():()]),_,0,1,(by show(0:Int)<2147483647;decide),(9),1,(),()
  let J1_:Nat->L2.St->Hp->Prop:=λi σ H'=>E3 λ(x:Int) (b:Int) (kv:om V)=>A5 (σ= [u_ (.int c),u_ (.int t),u_ (.int x),u_ (.int b),kv]) (0<=x) (x<2147483647) (0<=b) (H'=H)
  refine Zx (n:=9) J1_ ⟨_,_,US,1,Ui _ (),vZ _ (),(),1⟩ ?_ ?_
  ·rintro i σ H' hi ⟨x,b,kv,rfl,Z,aa,hb,rfl⟩;have U:So x x:= .inl [():()]
   exists 0,0,_,0,1,U,0,_,0,1,(.inl [():()]),_,0,1,_,0,1,_,0,1,(by show(0:Int)<2147483629;decide),0,_,0,1,(.inr [():()]),0,_,0,1
   have q0:0<=(x*x+40692*(0+(i:Int))+3)%2147483629:=Ui _ ()
   have q1:(x*x+40692*(0+(i:Int))+3)%2147483629<2147483629:=vZ _ ()
   exact⟨_,_,0,q0,Int.lt_trans q1 (),Int.add_nonneg (Int.mul_nonneg hb ()) q0,1⟩
  ·rintro σ H' ⟨x,b,kv,rfl,Z,aa,hb,rfl⟩;exact[0:(sml rfl):λp O=>k p _ O (qf O _) [_:qg:hb]]
nonrec def Nm4 (zs:oj Str):Prop:=1<=↑zs/\↑zs<=60/\∀z∈zs,nm z=v_/\↑z<=4
nonrec def Wd (n:Nat)(z:Str):Prop:=jV z=v_/\↑z<=n
def iR.of (s:ic H H'):iR p H H':=λb o e _=>s b o e
def lX.ne_strs {l:o3}(h:lX H p)(e:H l=u_ (.lst (zs.map V.str))):l≠p:=λz=>by
 erw[h,x,O,_];rw[<-z,e] at O;cases zs with
 |nil=>cases O
 |cons a r=>simp at O
inductive Lp:Sp
 |mk (p L:Addr)(zs:List Str)(_:vs= [.ref p,.ref L])(_:lX H p)(_:H L=u_ (.lst (zs.map V.str)))(_:Nm4 zs)(_:∀(z:Str)(H':Hp),Wd 4 z->lX H' p->iR p H H'->Q (.str z) H')
inductive LH:Sp
 |mk (p L:Addr)(zs:List Str)(many k:Nat)(_:vs= [.ref p,.ref L,.int (many:Int),.int (k:Int)])(_:lX H p)(_:H L=u_ (.lst (zs.map V.str)))(_:Nm4 zs)(_:1<=many)(_:many<=12)(_:k<=12)(_:∀(z:Str)(H':Hp),Wd 20 z->lX H' p->iR p H H'->Q (.str z) H')
nonrec def FIV:oj Str:= ["","x","b1 g","yes","c/d"]
def PF:∀z∈FIV,Wd 4 z:=by
 have:∀z∈FIV,jV z=v_/\↑z<=4:=by decide+kernel
 exact this
def C4 (h:nm z=v_):jV z=true:=CW (Kv h)
def Sv (h:Nm4 zs):∀z∈zs++FIV,Wd 4 z:=λz O=>by
 rcases Ac.mp O with h1|h1
 ·exact[C4 (h.2.2 z h1).1:(h.2.2 z h1).2]
 ·exact PF z h1
def Wd.cat {m k:Nat}{y:Str}(h:Wd n x)(h':Wd m y)(e:n+m<=k):Wd k (x++y):=⟨CY h.1 h'.1,by rw[sI];have:=h.2;have:=h'.2;omega⟩
def Dl:∀{l:oj Str},(∀z∈l,jV z=v_)->Wd ((l.map (·.length)).sum+↑l) (V0 " " l)
 | [],_=>[1:uW _]
 | [z],h=>⟨h z (by simp),by show ↑z<=_;simp⟩
 |z::y::r,h=>by
  have O:=Dl (l:=y::r) λx U=>h x (uh _ U);have Z:=h z (by simp)
  have e:=L2.Js z y r;exists ?_,?_
  ·show(V0 " " (z::y::r)).cps.toList.all Qz=v_;rw[e,UE,vq,show z.cps.toList.all Qz=v_ from Z,show(V0 " " (y::r)).cps.toList.all Qz=v_ from O.1]
   decide
  ·rw[pV,e,uA,um,<-pV,<-pV];have h1:=O.2;simp![uB,Ul,um] at h1⊢;omega
nonrec def WL:oj Str:= ["ask","ask","ask","has","names","text","text","copy","put","put","join","first","first","rest","size","cut","glue","like","none","rowed","go","say","fault","self"]
noncomputable abbrev WTX:Str:="ask ask ask has names text text copy put put join first first rest size cut glue like none rowed"
def Oa:spl ((WTX++(" go say fault self":Str)).length+1) (WTX++(" go say fault self":Str))=WL:=by decide+kernel
def Su:∀z∈WL,Wd 5 z:=by
 have:∀z∈WL,jV z=v_/\↑z<=5:=by decide+kernel
 exact this
def RN:∀c∈("abcdh":Str).cps.toList,Qz c=true:=by decide+kernel
def KY {d:Int}(h0:0<=d)(h1:d<5):∃c,atI ("abcdh":Str).cps.toList d=u_ c/\Wd 1 ⟨#[c]⟩:=by
 obtain⟨c,O⟩:=yZ (xs:=("abcdh":Str).cps.toList) h0 (by show d<5;exact h1)
 exists c,O,?_,uj _;show [c].all Qz=v_;rw[vq,RN c (Y7 O)]
 rfl
def Pc:∀k:Nat,k<13->jV (V2 (k:Int):Str)=v_/\↑(V2 (k:Int):Str)<=2:=by decide+kernel
def pN:#[T,2,a.w9,a.We,["pot","names"],Lp]:=by
 have qH:=#[Y4,T];exists 9,T.iw,wH
 erw[h,p,L,zs,rfl,hP,hL,U,k];have hs:=uD;have aa:=U.1;have ac:=U.2.1;exists 3,%[#[qC,(2),wH.nd,#[qY,ww,pv 1,#[QF,#v[qj,qj,qj,qj,qj]]]]|#[qp,#[qI,yi,pv 2,#[qu,qH,hr.mono (),T.ig,#v[pv 0,#[qy,qN,T.yx,uK,#v[pv 2]]]]]]]
 exists 0,(sml rfl),λq hq=>?_;have s1:ic H (upd H q (.lst [.str "",.str "x",.str "b1 g",.str "yes",.str "c/d"])):=qf hq _
 exists L,q,_,0,1,s1 _ _ hL,qg,(by rw[ue];show _+5<=UX;omega),λl hl=>?_
 have s2:=s1.trans (qf hl (.lst (zs.map V.str++ [.str "",.str "x",.str "b1 g",.str "yes",.str "c/d"])));have O:(upd (upd H q (.lst [.str "",.str "x",.str "b1 g",.str "yes",.str "c/d"])) l (.lst (zs.map V.str++ [.str "",.str "x",.str "b1 g",.str "yes",.str "c/d"]))) l=u_ (.lst ((zs++FIV).map V.str)):=by rw[qg,uz];rfl
 generalize upd (upd H q (.lst [.str "",.str "x",.str "b1 g",.str "yes",.str "c/d"])) l (.lst (zs.map V.str++ [.str "",.str "x",.str "b1 g",.str "yes",.str "c/d"]))=H2 at s2 O⊢;have P2:=hP.same s2;have l5:↑((zs++FIV).map V.str)=↑zs+5:=by rw[ue,uA];rfl
 exists 5
 refine⟨0,0,0,l,0,.inl (SqL.of O),p,0,P2,by rw[l5];omega,by rw[l5];omega,λd H' d0 d1 P3 K3=>?_⟩
 have Z:=K3 _ _ O (P2.ne_strs O);erw[yZ (xs:=(zs++FIV).map V.str) d0 d1,v,hv];erw[Ae.mp (Y7 hv),z,hz,rfl];exact⟨l,_,d,0,1,SqL.of Z,hv,k z H' (Sv U z hz) P3 ((iR.of s2).trans K3)⟩
def AaK {c:Nat}:∀{l:oj Str},(∀z∈l,↑z<=c)->(l.map (·.length)).sum<=↑l*c
 | [],_=>by simp
 |z::r,h=>by
  have:=AaK λy O=>h y (uh _ O);have:=h z ui;simp![uB,Ul,um,FW,r9];omega
def Ix {K:o0}(hl:↑l<=3)(O:Wd 5 z)(h:∀z∈l,Wd 2 z)(k:∀y H',Wd 20 y->ic H H'->Q (.str y) H'):↑((z::l).map V.str)<=UX/\∀p,H p=US->OM K (.str " ") [.ref p] (upd H p (.lst ((z::l).map V.str))) Q:=by
 have hs:=uD;have h1:=AaK (c:=2) λz O=>(h z O).2;have h2:=O.2;refine⟨by rw[ue,um];omega,λp Z=>⟨" ",p,z::l,1,1,SqL.of qg,?_,?_⟩⟩
 ·have e:(" ":Str).length=1:=rfl;rw[e];simp![uB,Ul,um];omega
 ·have:=Dl (l:=z::l) λy U=>by
   rcases Aa.mp U with rfl|U
   ·exact O.1
   ·exact(h y U).1
  refine k _ _ [this.1:?_] (qf Z _);have h3:=this.2;simp![uB,Ul,um] at h3;omega
def MC:#[T,3,a.Ws,a.wY,["pot","names","many","k"],LH]:=by
 have qH:=#[Y4,T];have QV:=#[pN,T];exists 9,T.mM,ym
 erw[h,p,L,zs,many,i,rfl,hP,hL,hN,ay,aA,hi,k];exists 3,%[#[qC,(4),ym.nd,qj],#[qC,(5),ym.nd,#[qI,yi,#[jY,uS,U9,Ua,Aq,#[qY,Qf,pv 4,qj],#v[qj]],#[qu,qH,hr.mono (),T.ig,#v[pv 0,qh]]]],#[ZH,#[xG,["j","pot"],[0],Ky (qi JM) ["pot","names","many","k","words","word","one","two","three","at"],#[Yy,#v[qh]],(λ_ _ _ _ _ _=>#[qQ,(0),(show Vd (["j","pot"]:oj Str) by decide+kernel)]),(λ_ _ _ _ _ _=> @yM _),(λ_ _ _ _ _ _=>#[qI,Aw,qj,#[qu,qH,hr.mono (),T.ig,#v[pv 1,qh]]])],#[Mh,6,rfl,QC #[qQ,(6),ym.nd] (QC #[qQ,(7),ym.nd] (QC #[qQ,(8),ym.nd] Jb)),_,_]],#[qC,(9),ym.nd,#[Ql,YO,T.zn,Ut,#v[#[qy,#[D4,1,rfl],T.z_min,boot_min,#v[pv 2,#[qY,yJ,#[qY,yJ,pv 3,qh],#[qu,qH,hr.mono (),T.ig,#v[pv 0,pv 2]]]]]]]],#[qG,#[qr,Qq,pv 5,qj],%[|#[qp,#[qY,Qf,#[qY,Qf,#[qY,Qf,qj,pv 6],qj],#[qu,QV,hr.mono (),T.iw,#v[pv 0,pv 1]]]]],qw],#[qG,#[qr,8,QT,pv 5,#[QF,#v[qj,qj]],#[w]],%[|#[qp,#[qY,Qf,#[qY,Qf,pv 5,qj],pv 6]]],qw],#[qG,#[qr,Qq,pv 5,qj],%[|#[qp,pv 5]],qw],#[qG,#[qr,Qq,pv 5,qj],%[|#[qp,#[qY,Qf,qj,pv 9]]],qw],#[qG,#[qr,8,QT,pv 5,#[QF,#v[qj,qj]],#[w]],%[|#[qp,#[jY,uS,vX,vY,Kb,qj,#v[#[QF,#v[pv 5,pv 6,pv 9]]]]]],qw],#[qG,#[qr,Qq,pv 5,qj],%[|#[qp,#[jY,uS,vX,vY,Kb,qj,#v[#[QF,#v[pv 5,pv 6,pv 7,pv 9]]]]]],qw],#[qG,#[qr,8,QT,pv 5,#[QF,#v[qj,qj]],#[w]],%[|#[qp,#[jY,uS,vX,vY,Kb,qj,#v[#[QF,#v[pv 5,pv 6,pv 7,pv 8]]]]]],qw]|#[qp,#[jY,uS,vX,vY,Kb,qj,#v[#[QF,#v[pv 5,pv 6,pv 7]]]]]]
 exists 0,_,0,1,(),1,0,1,(),λq hq=>?_
 rw[show spl _ _=WL from Oa]
 have s1:ic H (upd H q (.lst (WL.map V.str))):=qf hq _;have eq:(upd H q (.lst (WL.map V.str))) q=u_ (.lst (WL.map V.str)):=qg;generalize upd H q (.lst (WL.map V.str))=H1 at s1 eq⊢;have P1:=hP.same s1
 exists 0,p,(24),1,P1,(),(),λd H2 d0 d1 P2 K2=>?_
 obtain⟨v,hv⟩:=yZ (xs:=WL.map V.str) d0 (by show d<24;exact d1)
 erw[Ae.mp (Y7 hv),z,hz,rfl]
 exists q,_,d,0,1,SqL.of (K2 _ _ eq (P1.ne_strs eq)),hv;have Z:=Su z hz;have ah:iR p H H2:=(iR.of s1).trans K2;clear K2 hv hz eq P1 s1 hq
 exists (3),1,(),(),λD hD=>?_
 refine JK (lo:=0) (tl:= [u_ (.ref p)]) (λi ys H'=>∃bs:oj Str,ys=bs.map V.str/\↑bs=i/\(∀b∈bs,Wd 1 b)/\lX H' p/\(∀b o,H2 b=u_ o->b≠p->H' b=u_ o)) (yr ()) ⟨[],1,1,λb hb=>by simp at hb,P2.same (qf hD _),λb o e _=>qf hD _ _ _ e⟩ ?_ ?_
 ·rintro j ys H' hj ⟨bs,rfl,aa,U,P',K'⟩ ac O R hR
  exists 0,p,(5),1,P',(),(),λd3 H4 e0 e1 P4 K4=>?_
  erw[KY e0 e1,c,hc,am]
  exists "abcdh",d3,c,1,1,(),hc
  have nD:D≠p:=(P2.free hD).symm;refine hR _ H4 (K4 _ _ ac nD) ⟨bs++ [⟨#[c]⟩],by rw[uz];rfl,by rw[uA,aa];rfl,λb hb=>?_,?_,λb o e np=>?_⟩
  ·rcases Ac.mp hb with h|h
   ·exact U b h
   ·rw[vW] at h;subst h;exact am
  ·erw[P4,x,e2,h2];exact⟨x,by rwa[qk nD.symm],h2⟩
  ·rw[qk (ql e hD)];exact K4 _ _ (K' b o e np) np
 ·rintro ys H' ⟨bs,rfl,aa,U,P',K'⟩ ac;obtain⟨x1,x2,x3,rfl⟩:∃x1 x2 x3,bs= [x1,x2,x3]:=by
   match bs,aa with
   | [x1,x2,x3],_=>exact⟨x1,x2,x3,1⟩
  have h1:Wd 2 x1:=⟨(U x1 (by simp)).1,by have:=(U x1 (by simp)).2;omega⟩
  have h2:Wd 2 x2:=⟨(U x2 (by simp)).1,by have:=(U x2 (by simp)).2;omega⟩
  have h3:Wd 2 x3:=⟨(U x3 (by simp)).1,by have:=(U x3 (by simp)).2;omega⟩
  have KD:iR p H H':=λb o e np=>K' b o (ah b o e np) np
  exists D,0,SqL.of ac,1,_,0,_,0,_,0,1;clear K' ah P2 U aa ac
  exists 0,0,_,0,1,0,0,p,many,1,P',(),(),λd5 H5 f0 f1 P5 K5=>⟨_,0,1,_,0,?_⟩
  obtain⟨j,ej,ao,ap⟩:∃j:Int,j=(if(i:Int)+5+d5<(many:Int) then(i:Int)+5+d5 else(many:Int))/\1<=j/\j<=12:=⟨0,by split<;>omega,by split<;>omega⟩
  rw[<-ej];obtain⟨jn,rfl⟩:∃n:Nat,j=(n:Int):=[j.toNat:()]
  have ak:=Pc jn ()
  have h4:Wd 2 (V2 ((jn:Nat):Int):Str):=ak;have ae:((jn:Nat):Int).natAbs.log2<1920:=by have:=UQ ((jn:Nat):Int).natAbs;omega
  exists 0,ae;have af:iR p H H5:=KD.trans K5;have aq:=af _ _ hL (hP.ne_strs hL);have fin:∀(y:Str) (H':Hp),Wd 20 y->ic H5 H'->Q (.str y) H':=λy H' O s'=>k y H' O (P5.same s') (af.trans (iR.of s'));have two:(2:Nat)<=sizeLine:=by decide
  have bl:Wd 1 " ":=[():uj _]
  have fz:∀{n m:Nat}{x y:Str},Wd n x->Wd m y->n+m<=100->↑x+↑y<=sizeLine:=λhx O h=>mI (by have:=hx.2;have:=O.2;omega)
  have tx:Wd 5 "text ":=[():uj _]
  have go:Wd 3 "go ":=[():uj _]
  clear ak ao ap ae ej
  exists 0,1,0,lI (λ_=>?_) (λ_=>?_)
  ·have w1:=tx.cat h1 (k:=7) ()
   have w2:=w1.cat bl (k:=8) ()
   exists 0,_,0,1,fz tx h1 (),_,0,1,fz w1 bl (),0,0,p,L,zs,1,P5,aq,hN,λy H6 O P6 K6=>?_
   exact⟨_,0,1,fz w2 O (),k _ H6 (w2.cat O ()) P6 (af.trans K6)⟩
  exists 0,two,λl1 au=>⟨l1,0,.inl (SqL.of qg),1,1,0,?_⟩;have ad:=qf au (.lst ([.str "self",.str "say"]:oj V));refine lI (λ_=>?_) (λ_=>?_)
  ·have w1:=Z.cat bl (k:=6) ()
   exact⟨0,_,0,1,fz Z bl (),0,_,0,1,fz w1 h1 (),fin _ _ (w1.cat h1 ()) ad⟩
  exists 0,1,0,lI (λ_=>?_) (λ_=>?_)
  ·exact⟨0,fin _ _ ⟨Z.1,by have:=Z.2;omega⟩ ad⟩
  exists 0,1,0,lI (λ_=>?_) (λ_=>?_)
  ·exact⟨0,_,0,1,fz go h4 (),fin _ _ (go.cat h4 ()) ad⟩
  exists 0,two,λl2 aw=>⟨l2,0,.inl (SqL.of qg),1,1,0,?_⟩;have ag:=ad.trans (qf aw (.lst ([.str "none",.str "rowed"]:oj V)));refine lI (λ_=>?_) (λ_=>?_)
  ·exists 1,0,0,0;exact Ix (l:= [x1,V2 ((jn:Nat):Int)]) (by simp) Z (λy O=>by simp at O;rcases O with rfl|rfl<;>assumption) λy H' O s'=>fin y H' O (ag.trans s')
  exists 0,1,0,lI (λ_=>?_) (λ_=>?_)
  ·exists 1,0,0,0,0;exact Ix (l:= [x1,x2,V2 ((jn:Nat):Int)]) (by simp) Z (λy O=>by simp at O;rcases O with rfl|rfl|rfl<;>assumption) λy H' O s'=>fin y H' O (ag.trans s')
  exists 0,two,λl3 ax=>⟨l3,0,.inl (SqL.of qg),1,1,0,?_⟩;have al:=ag.trans (qf ax (.lst ([.str "cut",.str "glue"]:oj V)));refine lI (λ_=>?_) (λ_=>?_)
  ·exists 1,0,0,0,0;exact Ix (l:= [x1,x2,x3]) (by simp) Z (λy O=>by simp at O;rcases O with rfl|rfl|rfl<;>assumption) λy H' O s'=>fin y H' O (al.trans s')
  ·exists 1,0,0,0;exact Ix (l:= [x1,x2]) (by simp) Z (λy O=>by simp at O;rcases O with rfl|rfl<;>assumption) λy H' O s'=>fin y H' O (al.trans s')
nonrec def NJ (d:D):Prop:=isT d=v_/\lw d=v_/\sz d<=300
inductive BT:Sp
 |mk (p L:Addr)(zs:List Str)(_:vs= [.ref p,.ref L])(_:lX H p)(_:H L=u_ (.lst (zs.map V.str)))(_:Nm4 zs)(_:∀(v:V)(d:D)(H':Hp),NJ d->Is H' d v->lX H' p->iR p H H'->Q v H')
def IsL.ofStrz {H:Hp}:∀{l:oj Str},(∀z∈l,↑z<=1000)->L2.IsL H (l.map D.str) (l.map V.str)
 | [],_=>rfl
 |z::r,h=>⟨_,0,[1:yr (h z ui)],IsL.ofStrz λy O=>h y (uh _ O)⟩
def sP {n:Nat}:∀{l:oj Str},(∀z∈l,↑z<=n)->szL (l.map D.str)<=↑l*(n+1)
 | [],_=>by simp[szL]
 |z::r,h=>by
  have:=sP (n:=n) λy O=>h y (uh (a:=y) z O);have:=h z ui;simp![uB,szL,sz,um,FW,r9];omega
def Db:∀{l:oj Str},(∀z∈l,jV z=v_)->lwL (l.map D.str)=v_
 | [],_=>rfl
 |z::r,h=>by
  rw[uB,lwL,Db λy O=>h y (uh _ O),vU];exact h z ui
def DU:∀l:oj Str,dpL (l.map D.str)<=1
 | []=>by simp[dpL]
 |z::r=>by have:=DU r;simp![uB,dpL,dp];omega
def oE:∀{l:oj Str},(∀z∈l,Wd 300 z)->goodL (l.map D.str)=v_
 | [],_=>rfl
 |z::r,h=>by
  rw[uB,goodL,oE λy O=>h y (uh _ O),vU];show Qs z=v_;unfold Qs;have:=h z ui;rw[ud this.2];exact this.1
def Of (h:Wd 20 z):NJ (.str z):=⟨Ds h.1 (by have:=h.2;omega),h.1,by simp![sz];have:=h.2;omega⟩
def nc (Z:↑l<=14)(h:∀z∈l,Wd 20 z):NJ (.tup (l.map D.str)):=by
 have h1:=sP λz O=>(h z O).2;have h2:=DU l;have h3:=oE λz O=>(⟨(h z O).1,by have:=(h z O).2;omega⟩:Wd 300 z)
 have e:sz (.tup (l.map D.str))<=300:=by simp![sz];omega
 exists ?_,by simpa only [lw] using Db λz O=>(h z O).1,e
 have U:dp (.tup (l.map D.str))<=12:=by simp![dp];omega
 unfold isT;rw[ud (show sz (.tup (l.map D.str))<=600 by omega),ud U]
 simp![iL];rw[h3,ue,ud (show ↑l<=40 by omega)]
 rfl
def we {t:o3}(h:∀z∈l,Wd 20 z)(O:H t=US):Is (upd H t (.tup (l.map V.str))) (.tup (l.map D.str)) (.ref t):=
 Is.new (IsL.ofStrz λz U=>by have:=(h z U).2;omega) O
nonrec def MKL (z:Str):oj Str:= ["row h","text b "++z,"ask c b","text a text d ","join a c","put h a","text a ask e d","put h a","text a say e","put h a","say h"]
def Kx (h:Wd 4 z):∀y∈MKL z,Wd 20 y:=by
 have O:∀y∈(["row h","ask c b","text a text d ","join a c","put h a","text a ask e d","put h a","text a say e","put h a","say h"]:oj Str),jV y=v_/\↑y<=20:=by decide+kernel
 intro y U;rcases Aa.mp U with rfl|U
 ·exact O _ (by simp)
 ·rcases Aa.mp U with rfl|U
  ·exact Wd.cat (n:=7) (m:=4) [():uj _] h ()
  ·exact O y (uh _ U)
def E6:#[T,2,a.wt,a.ZX,["pot","names"],BT]:=by
 have qH:=#[Y4,T];exists 9,T.mB,YZ
 erw[h,p,L,zs,rfl,hP,hL,Z,k];have ac:=Z.1;have ad:=Z.2.1;exists 3,%[#[qC,(2),YZ.nd,#[qI,yi,pv 1,#[qu,qH,hr.mono (),T.ig,#v[pv 0,#[qy,qN,T.yx,uK,#v[pv 1]]]]]],#[qC,(3),YZ.nd,#[QF,#v[qj,#[qY,Qf,qj,pv 2],qj,qj,qj,qj]]],#[qC,(3),YZ.nd,#[qY,ww,pv 3,#[QF,#v[qj,qj,qj,qj,qj]]]]|#[qp,#[Ql,Qn,T.Q8,vE,#v[pv 3]]]]
 have aa:=hP.ne_strs hL
 exists 5
 refine⟨0,0,0,L,0,.inl (SqL.of hL),p,0,hP,by rw[ue];omega,by rw[ue];omega,λd1 H1 a0 a1 P1 K1=>?_⟩
 erw[yZ (xs:=zs.map V.str) a0 a1,v,hv];erw[Ae.mp (Y7 hv),z,hz,rfl];have O:Wd 4 z:=[C4 (Z.2.2 z hz).1:(Z.2.2 z hz).2]
 exists L,_,_,0,1,SqL.of (K1 _ _ hL aa),hv;have e7:("text b ":Str).length=7:=by decide+kernel
 exists 0,_,0,1,mI (by have:=O.2;omega),(sml rfl),λU h1=>?_
 have q1:=qf h1 (.lst (((MKL z).take 6).map V.str));have e1:(upd H1 U (.lst (((MKL z).take 6).map V.str))) U=u_ (.lst (((MKL z).take 6).map V.str)):=qg;show mQ _ _ _ _ (upd H1 U (.lst (((MKL z).take 6).map V.str)));generalize upd H1 U (.lst (((MKL z).take 6).map V.str))=H2 at q1 e1⊢
 exists 0,(sml rfl),λl2 h2=>?_;have q2:=qf h2 (.lst (((MKL z).drop 6).map V.str))
 exists U,l2,_,0,1,q2 _ _ e1,qg,mI (by show 6+5<=16000000;decide),λl3 h3=>?_
 have q3:=q2.trans (qf h3 (.lst ((MKL z).map V.str)))
 exists 0,l3,(MKL z).map V.str,1,.inl [SqL.of qg:λt ht=>?_];have q4:=qf ht (.tup ((MKL z).map V.str));exact k _ _ _ (nc (by show 11<=14;decide) (Kx O)) (we (Kx O) ht) ((P1.same q1).same (q3.trans q4)) (K1.trans (iR.of (q1.trans (q3.trans q4))))
def CH:#[T,4,a.WT,a.Wh,["pot","names"],BT]:=by
 have qH:=#[Y4,T];have QV:=#[pN,T];have O:=#[MC,T];exists 9,T.l8,jo
 erw[h,p,L,zs,rfl,hP,hL,hN,k];exists 3,%[#[qC,(2),jo.nd,#[qY,yJ,qh,#[qu,qH,hr.mono (),T.ig,#v[pv 0,qh]]]],#[qC,2,(3),4,jo.nd,rfl,VI rfl,#[qY,yJ,pv 2,qh],_,_],#[qC,(4),jo.nd,#[QF,#v[#[qY,Qf,qj,#[qu,QV,hr.mono (),T.iw,#v[pv 0,pv 1]]],#[qY,Qf,qj,#[qu,QV,hr.mono (),T.iw,#v[pv 0,pv 1]]],qj]]],#[qZ,#[jY,vc,PySem.F.slot_list_extend,PySem.F.type_list_extend,nY,pv 4,#v[#[xG,["k","pot","names","many"],[0,1,3],Ky (qi JR) ["pot","names","body","many","lines"],#[Yy,#v[pv 2]],(λ_ _ _ _ _ _=>#[qQ,(0),(show Vd (["k","pot","names","many"]:oj Str) by decide+kernel)]),(λ_ _ _ _ _ _=> @yM _),(λ_ _ _ _ _ _=>#[qu,O,hr.mono (),T.mM,#v[pv 1,pv 2,pv 3,pv 0]])]]]]|#[qp,#[Ql,Qn,T.Q8,vE,#v[#[qY,ww,pv 4,#[QF,#v[#[qY,Qf,qj,#[qI,Aw,qj,#[qu,qH,hr.mono (),T.ig,#v[pv 0,qh]]]]]]]]]]]
 exists 0,p,(8),1,hP,(),(),λd1 H1 a0 a1 P1 K1=>⟨_,0,1,?_⟩
 obtain⟨nb,ah,aG,aH⟩:∃nb:Nat,1+d1=(nb:Int)/\1<=nb/\nb<=8:=⟨(1+d1).toNat,(),(),()⟩
 have aa:=K1 _ _ hL (hP.ne_strs hL)
 try dsimp only
 rw[ah];clear ah a0 a1
 exists 0,_,0,1;have ta:Wd 7 "text a ":=[():uj _]
 have tb:Wd 7 "text b ":=[():uj _]
 have fz:∀{n m:Nat}{x y:Str},Wd n x->Wd m y->n+m<=100->↑x+↑y<=sizeLine:=λhx U h=>mI (by have:=hx.2;have:=U.2;omega)
 exists 0,0,p,L,zs,1,P1,aa,hN,λz1 H5 ak P5 K5=>⟨_,0,1,fz ta ak (),?_⟩
 have ac:=K5 _ _ aa (P1.ne_strs aa)
 exists 0,0,p,L,zs,1,P5,ac,hN,λz2 H6 al P6 K6=>⟨_,0,1,fz tb al (),(sml rfl),λl hl=>?_⟩
 have au:=K6 _ _ ac (P5.ne_strs ac);have am:iR p H H6:=(K1.trans K5).trans K6;have s7:=qf hl (.lst (["text a "++z1,"text b "++z2,"row h"].map V.str));have e7:(upd H6 l (.lst (["text a "++z1,"text b "++z2,"row h"].map V.str))) l=u_ (.lst (["text a "++z1,"text b "++z2,"row h"].map V.str)):=qg;have P7:=P6.same s7;have ad:=s7 _ _ au;have K7:iR p H (upd H6 l (.lst (["text a "++z1,"text b "++z2,"row h"].map V.str))):=am.trans (iR.of s7);have Z:∀y∈(["text a "++z1,"text b "++z2,"row h"]:oj Str),Wd 20 y:=λy U=>by
  simp![uG,uH,uO] at U;rcases U with rfl|rfl|rfl
  ·exact ta.cat ak ()
  ·exact tb.cat al ()
  ·exact[():()]
 show mQ _ _ _ _ (upd H6 l (.lst (["text a "++z1,"text b "++z2,"row h"].map V.str)));generalize upd H6 l (.lst (["text a "++z1,"text b "++z2,"row h"].map V.str))=H7 at e7 P7 ad K7⊢;have aw:(["text a "++z1,"text b "++z2,"row h"]:oj Str).length=3:=rfl;generalize (["text a "++z1,"text b "++z2,"row h"]:oj Str)=th at e7 Z aw⊢
 exists 0,.inl [1:_:SqL.of e7]
 exists 0,nb,1,(),(),λD hD=>?_
 have nD:D≠p:=(P7.free hD).symm;have nl:l≠p:=P7.ne_strs e7;refine JK (lo:=0) (n:=nb) (tl:= [u_ (.ref p),u_ (.ref L),u_ (.int ((nb:Int)+4))]) (λi ys H'=>∃rs:oj Str,ys=rs.map V.str/\↑rs=i/\(∀r∈rs,Wd 20 r)/\lX H' p/\(∀b o,H7 b=u_ o->b≠p->H' b=u_ o)) (yr ()) ⟨[],1,1,λb hb=>by simp at hb,P7.same (qf hD _),λb o e _=>qf hD _ _ _ e⟩ ?_ ?_
 ·rintro j ys H' hj ⟨rs,rfl,ao,ae,P',K'⟩ af U R hR;have ax:=K' _ _ ad (P7.ne_strs ad)
  exists 0,0,0,0,p,L,zs,nb+4,j,?_,P',ax,hN,(),(),(),λr H8 ay P8 K8=>?_
  ·rw[show(0:Int)+(j:Int)=(j:Int) by omega,show((nb+4:Nat):Int)=(nb:Int)+4 by omega]
   rfl
  ·refine hR _ H8 (K8 _ _ af nD) ⟨rs++ [r],by rw[uz];rfl,by rw[uA,ao];rfl,λb hb=>?_,?_,λb o e np=>?_⟩
   ·rcases Ac.mp hb with h|h
    ·exact ae b h
    ·rw[vW] at h;subst h;exact ay
   ·erw[P8,x,e2,h2];exact⟨x,by rwa[qk nD.symm],h2⟩
   ·rw[qk (ql e hD)];exact K8 _ _ (K' b o e np) np
 ·rintro ys H' ⟨rs,rfl,ao,ae,P',K'⟩ af;have e8:=K' _ _ e7 nl
  exists l,D,_,0,1,e8,af,mI (by rw[ue,ue];omega)
  have e9:(upd H' l (.lst (th.map V.str++rs.map V.str))) l=u_ (.lst ((th++rs).map V.str)):=by rw[qg,uz]
  have P9:lX (upd H' l (.lst (th.map V.str++rs.map V.str))) p:=by
   erw[P',x,e2,h2];exact⟨x,by rwa[qk nl.symm],h2⟩
  have K9:iR p H (upd H' l (.lst (th.map V.str++rs.map V.str))):=λb o e np=>by
   rw[qk (ql (am b o e np) hl)];exact K' b o (K7 b o e np) np
  generalize upd H' l (.lst (th.map V.str++rs.map V.str))=H9 at e9 P9 K9⊢
  exists 0,0,p,(5),1,P9,(),(),λd9 aI g0 g1 aA ap=>?_
  erw[KY g0 g1,c9,hc,aB];have aC:=ap _ _ e9 nl
  exists "abcdh",d9,c9,1,1,(),hc,_,0,1,(by show("say ":Str).length+1<=UX;decide+kernel),(sml rfl),λq1 aD=>?_
  have aq:=qf aD (.lst [.str ("say "++⟨#[c9]⟩)]);have hw:Wd 20 ("say "++⟨#[c9]⟩:Str):=Wd.cat (n:=4) (m:=1) [():uj _] aB ()
  exists l,q1,_,0,1,aq _ _ aC,qg,mI (by rw[ue,uA];show _+1<=_;omega),λq2 aE=>?_
  have aF:=aq.trans (qf aE (.lst ((th++rs).map V.str++ [.str ("say "++⟨#[c9]⟩)])))
  exists q2,0,.inl [SqL.of qg:λt ht=>?_];have ag:=aF.trans (qf ht (.tup ((th++rs).map V.str++ [.str ("say "++⟨#[c9]⟩)])));have all:∀y∈th++rs++ [("say "++⟨#[c9]⟩:Str)],Wd 20 y:=λy U=>by
   rcases Ac.mp U with U|U
   ·rcases Ac.mp U with U|U
    ·exact Z y U
    ·exact ae y U
   ·cases Ab.mp U;exact hw
  have em:(th++rs).map V.str++ [.str ("say "++⟨#[c9]⟩)]=(th++rs++ [("say "++⟨#[c9]⟩:Str)]).map V.str:=by rw[uz (l₁:=th++rs)];rfl
  rw[em] at ag ht⊢;refine k _ _ _ (nc (l:=th++rs++ [("say "++⟨#[c9]⟩:Str)]) (by simp![uA,vm];omega) all) (we all ht) (aA.same ag) ((K9.trans ap).trans (iR.of ag))
def Ep {y:Str}(O:Wd 20 z)(U:Wd 20 y):NJ (.tup [.tup [.str z,.tup []],.str y]):=by
 have h1:=O.2;have h2:=U.2;have Z:Qs z=true:=by unfold Qs;rw[ud (show ↑z<=300 by omega)];exact O.1
 have g2:Qs y=true:=by unfold Qs;rw[ud (show ↑y<=300 by omega)];exact U.1
 have e:sz (.tup [.tup [.str z,.tup []],.str y])<=300:=by simp![sz,szL];omega
 exists ?_,by simp[lw,lwL,O.1,U.1],e
 unfold isT;rw[ud (show sz (.tup [.tup [.str z,.tup []],.str y])<=600 by omega),ud (show dp (.tup [.tup [.str z,.tup []],.str y])<=12 by simp![dp,dpL];omega)]
 simp[iL,goodL,Z,g2]
inductive Lu:Sp
 |mk (p L:Addr)(zs:List Str)(_:vs= [.ref p,.ref L])(_:lX H p)(_:H L=u_ (.lst (zs.map V.str)))(_:Nm4 zs)(_:∀(v:V)(d:D)(H':Hp),wL d->Is H' d v->lX H' p->iR p H H'->Q v H')
def Og {k:Str}{d:D}(O:k="leaf"∨k="rule")(h:NJ d):wL (.tup [.str k,d]):=Et O h.1 h.2.1 h.2.2
def BP {k:Str}{d:D}(O:k="leaf"∨k="rule")(h:NJ d)(Z:Is H d v)(q:∀t H',ic H H'->Is H' (.tup [.str k,d]) (.ref t)->wL (.tup [.str k,d])->Q (.ref t) H'): [V.str k,v].length<=UX/\∀t,H t=US->Q (.ref t) (upd H t (.tup [.str k,v])):=by
 exists sml rfl,λt U=>q t _ (qf U _) (Is.new (ds:= [.str k,d]) ⟨_,0,[1:?_],_,0,Z,1⟩ U) (Og O h);rcases O with rfl|rfl<;>decide+kernel
def MD:#[T,5,a.Wn,a.WO,["pot","names"],BT]:=by
 have qH:=#[Y4,T];have QV:=#[pN,T];have zo:=#[CH,T];exists 9,T.l9,wq
 erw[h,p,L,zs,rfl,hP,hL,hN,k];have aa:∀{z:Str},Wd 4 z->Wd 20 z:=λh=>⟨h.1,by have:=h.2;omega⟩
 exists 3,%[#[qC,(2),wq.nd,#[qu,qH,hr.mono (),T.ig,#v[pv 0,qh]]],#[qG,#[qr,Cu,pv 2,qh],%[|#[qp,#[qu,QV,hr.mono (),T.iw,#v[pv 0,pv 1]]]],qw],#[qG,#[qr,Qq,pv 2,qh],%[|#[qp,#[Ql,Qn,T.Q8,vE,#v[#[xG,["k","pot","names"],[0,1],Ky (qi JT) ["pot","names","kind"],#[Yy,#v[#[qu,qH,hr.mono (),T.ig,#v[pv 0,qh]]]],(λ_ _ _ _ _ _=>#[qQ,(0),(show Vd (["k","pot","names"]:oj Str) by decide+kernel)]),(λ_ _ _ _ _ _=> @yM _),(λ_ _ _ _ _ _=>#[qu,QV,hr.mono (),T.iw,#v[pv 1,pv 2]])]]]]],qw],#[qG,#[qr,Qq,pv 2,qh],%[|#[qp,#[qB,#v[#[qB,#v[#[qu,QV,hr.mono (),T.iw,#v[pv 0,pv 1]],#[qB,qd]]],#[qu,QV,hr.mono (),T.iw,#v[pv 0,pv 1]]]]]],qw],#[qG,#[qr,Qq,pv 2,qh],%[|#[qp,#[qu,zo,hr.mono (),T.l8,#v[pv 0,pv 1]]]],qw]|#[qp,#[qB,#v[#[qY,Qf,qj,#[qu,QV,hr.mono (),T.iw,#v[pv 0,pv 1]]],qj,qj]]]]
 exists 0,p,(6),1,hP,(),(),λd1 H1 a0 a1 P1 K1=>?_
 have O:=K1 _ _ hL (hP.ne_strs hL)
 exists 0,_,0,1,0,lI (λ_=>?_) (λ_=>?_)
 ·exact⟨0,0,p,L,zs,1,P1,O,hN,λz H2 hz U Z=>k _ _ H2 (Of (aa hz)) ⟨1,mI (by have:=hz.2;omega)⟩ U (K1.trans Z)⟩
 exists 0,1,0,lI (λ_=>?_) (λ_=>?_)
 ·exists 0,p,(4),1,P1,(),(),λd2 H2 b0 b1 U Z=>?_
  have ac:=Z _ _ O (P1.ne_strs O);obtain⟨n,rfl,hn⟩:∃n:Nat,d2=(n:Int)/\n<4:=[d2.toNat:():()]
  exists n,1,(),(),λD hD=>?_
  have nD:D≠p:=(U.free hD).symm;refine JK (lo:=0) (n:=n) (tl:= [u_ (.ref p),u_ (.ref L)]) (λi ys H'=>∃rs:oj Str,ys=rs.map V.str/\↑rs=i/\(∀r∈rs,Wd 20 r)/\lX H' p/\(∀b o,H2 b=u_ o->b≠p->H' b=u_ o)) (yr ()) ⟨[],1,1,λb hb=>by simp at hb,U.same (qf hD _),λb o e _=>qf hD _ _ _ e⟩ ?_ ?_
  ·rintro j ys H' hj ⟨rs,rfl,af,ad,P',K'⟩ ae hy R hR;have ao:=K' _ _ ac (U.ne_strs ac)
   exists 0,0,p,L,zs,1,P',ao,hN,λr H8 ap P8 K8=>?_;refine hR _ H8 (K8 _ _ ae nD) ⟨rs++ [r],by rw[uz];rfl,by rw[uA,af];rfl,λb hb=>?_,?_,λb o e np=>?_⟩
   ·rcases Ac.mp hb with h|h
    ·exact ad b h
    ·rw[vW] at h;subst h;exact aa ap
   ·erw[P8,x,e2,h2];exact⟨x,by rwa[qk nD.symm],h2⟩
   ·rw[qk (ql e hD)];exact K8 _ _ (K' b o e np) np
  ·rintro ys H' ⟨rs,rfl,af,ad,P',K'⟩ ae
   exists D,0,.inl [SqL.of ae:λt ht=>?_];have s3:=qf ht (.tup (rs.map V.str));exact k _ _ _ (nc () ad) (we ad ht) (P'.same s3) (λb o e np=>s3 _ _ (K' b o ((K1.trans Z) b o e np) np))
 exists 0,1,0,lI (λ_=>?_) (λ_=>?_)
 ·exists 0,0,p,L,zs,1,P1,O,hN,λz1 H2 ag U Z=>[uW _:λt0 ah=>[sml rfl:λt1 ak=>?_]];have ac:=Z _ _ O (P1.ne_strs O);have s0:=qf ah (.tup ([]:oj V));have s1:=s0.trans (qf ak (.tup [.str z1,.ref t0]));have i0:Is (upd H2 t0 (.tup [])) (.tup []) (.ref t0):=Is.new (ds:= []) rfl ah;have i1:Is (upd (upd H2 t0 (.tup [])) t1 (.tup [.str z1,.ref t0])) (.tup [.str z1,.tup []]) (.ref t1):=Is.new (ds:= [.str z1,.tup []]) ⟨_,0,⟨1,mI (by have:=ag.2;omega)⟩,_,0,i0,1⟩ ak
  generalize upd (upd H2 t0 (.tup [])) t1 (.tup [.str z1,.ref t0])=H3 at s1 i1⊢;have P3:=U.same s1
  exists 0,0,p,L,zs,1,P3,s1 _ _ ac,hN,λz2 H4 al P4 K4=>[sml rfl:λt2 am=>?_];have s2:=qf am (.tup [.ref t1,.str z2]);refine k _ _ _ (Ep (aa ag) (aa al)) (Is.new (ds:= [.tup [.str z1,.tup []],.str z2]) ⟨_,0,i1.mono (P3.tk P4 K4),_,0,⟨1,mI (by have:=al.2;omega)⟩,1⟩ am) (P4.same s2) ((((K1.trans Z).trans (iR.of s1)).trans K4).trans (iR.of s2))
 exists 0,1,0,lI (λ_=>?_) (λ_=>?_)
 ·exact⟨0,0,p,L,zs,1,P1,O,hN,λv d H2 hd hv U Z=>k v d H2 hd hv U (K1.trans Z)⟩
 ·have ta:Wd 7 "text a ":=[():uj _]
  exists 0,0,p,L,zs,1,P1,O,hN,λz H2 hz U Z=>⟨_,0,1,mI (by have:=hz.2;have:=ta.2;omega),sml rfl,λt ht=>?_⟩
  have all:∀y∈(["text a "++z,"ask b a","say b"]:oj Str),Wd 20 y:=λy hy=>by
   simp![uG,uH,uO] at hy;rcases hy with rfl|rfl|rfl
   ·exact ta.cat hz ()
   ·exact[():()]
   ·exact[():()]
  have s2:=qf ht (.tup ((["text a "++z,"ask b a","say b"]:oj Str).map V.str));exact k _ _ _ (nc (by show 3<=14;decide) all) (we all ht) (U.same s2) ((K1.trans Z).trans (iR.of s2))
def Mr:#[T,6,a.zE,a.zI,["pot","names"],Lu]:=by
 have qH:=#[Y4,T];have WJ:=#[MD,T];have zo:=#[CH,T];have O:=#[E6,T];exists 9,T.mi,Xk
 erw[h,p,L,zs,rfl,hP,hL,hN,k];have ad:=hN.1;have ae:=hN.2.1;exists 3,%[#[qC,(2),Xk.nd,#[qu,qH,hr.mono (),T.ig,#v[pv 0,qh]]],#[qG,#[qr,Cu,pv 2,qh],%[|#[qp,#[qB,#v[qj,#[qu,WJ,hr.mono (),T.l9,#v[pv 0,pv 1]]]]]],qw],#[qG,#[qr,Cu,pv 2,qh],%[|#[qp,#[qB,#v[qj,#[qu,zo,hr.mono (),T.l8,#v[pv 0,pv 1]]]]]],qw],#[qG,#[qr,Qq,pv 2,qh],%[|#[qp,#[qB,#v[qj,#[qu,O,hr.mono (),T.mB,#v[pv 0,pv 1]]]]]],qw],@qG _ _ _ _ _ _ _ _ #[s9,7,#[qr,Qq,pv 2,qh],#[ki,4,#[qr,Qq,#[qu,qH,hr.mono (),T.ig,#v[pv 0,qh]],qh]]].pt %[|#[qp,#[qB,#v[qj,#[qu,WJ,hr.mono (),T.l9,#v[pv 0,pv 1]]]]]] qw|#[qp,#[qB,#v[qj,#[qI,yi,pv 1,#[qu,qH,hr.mono (),T.ig,#v[pv 0,#[qy,qN,T.yx,uK,#v[pv 1]]]]]]]]]
 exists 0,p,(10),1,hP,(),(),λd1 H1 a0 a1 P1 K1=>?_
 have Z:=K1 _ _ hL (hP.ne_strs hL);have fin:∀{H3 H2:Hp}{kk:Str}{d:D}{v:V},lX H3 p->iR p H H3->kk="leaf"∨kk="rule"->NJ d->Is H2 d v->lX H2 p->iR p H3 H2-> [V.str kk,v].length<=UX/\∀t,H2 t=US->Q (.ref t) (upd H2 t (.tup [.str kk,v])):=λ{H3 H2 kk d v} P3 K3 hk hd U P2 K2=>
  BP hk hd U λt H4 s4 i4 o4=>k _ _ H4 o4 i4 (P2.same s4) ((K3.trans K2).trans (iR.of s4))
 exists 0,_,0,1,0,lI (λ_=>?_) (λ_=>?_)
 ·exact⟨0,0,p,L,zs,1,P1,Z,hN,λv d H2 hd U P2 K2=>fin P1 K1 (.inl rfl) hd U P2 K2⟩
 exists 0,_,0,1,0,lI (λ_=>?_) (λ_=>?_)
 ·exact⟨0,0,p,L,zs,1,P1,Z,hN,λv d H2 hd U P2 K2=>fin P1 K1 (.inr rfl) hd U P2 K2⟩
 exists 0,1,0,lI (λ_=>?_) (λ_=>?_)
 ·exact⟨0,0,p,L,zs,1,P1,Z,hN,λv d H2 hd U P2 K2=>fin P1 K1 (.inr rfl) hd U P2 K2⟩
 show mQ _ _ _ _ H1;refine qD λN0 n0=>n0 _ _ ?_;exists 8,BB,bb;have made:∀{H3:Hp},lX H3 p->iR p H H3->BB [u_ (V.ref p),u_ (V.ref L),u_ (V.int d1)] H3:=by
  intro H3 P3 K3;refine bb _ _ ?_;have aa:=K3 _ _ hL (hP.ne_strs hL)
  exists 5
  refine⟨0,0,0,L,0,.inl (SqL.of aa),p,0,P3,by rw[ue];omega,by rw[ue];omega,λd2 H4 b0 b1 P4 K4=>?_⟩
  erw[yZ (xs:=zs.map V.str) b0 b1,v,U];erw[Ae.mp (Y7 U),z,hz,rfl]
  exists L,_,_,0,1,SqL.of (K4 _ _ aa (P3.ne_strs aa)),U,sml rfl,λt ht=>?_;have s4:=qf ht (.tup [.str "made",.str z]);have ac:=hN.2.2 z hz;exact k _ _ _ (Es ac.1) (Is.new (ds:= [.str "made",.str z]) ⟨_,0,[1:()],_,0,[1:mI ()],1⟩ ht) (P4.same s4) ((K3.trans K4).trans (iR.of s4))
 exists 0,1,0,lI (λ_=>?_) (λ_=>?_)
 ·exists 0,p,(4),1,P1,(),(),λd2 H2 b0 b1 P2 K2=>[1:0:lI (λ_=>?_) (λ_=>?_)]
  ·exact⟨0,0,p,L,zs,1,P2,K2 _ _ Z (P1.ne_strs Z),hN,λv d H3 hd U P3 K3=>fin P2 (K1.trans K2) (.inr rfl) hd U P3 K3⟩
  ·exact made P2 (K1.trans K2)
 ·exact iS (made P1 K1)
def SqL.keepK {K:o0}{a:o3}(e:∀o,H a=u_ o->H' a=u_ o)(h:SqL K H a xs):SqL K H' a xs:=by
 rcases h with(h|⟨o,h⟩)|h
 ·exact .inl (.inl (e _ h))
 ·exact .inl (.inr [o:e _ h])
 ·exact .inr h
nonrec def N8:oj Str:= ["a","b1","c/d","e.f","g","h9","k","m/n"]
def Pf:∀z∈N8,nm z=v_/\↑z<=4:=by decide+kernel
def S9:N8.Nodup:=by decide+kernel
def AI {vs:oj V}:AK vs US (u_ (n:Int))=vs.take n:=by
 unfold AK;rw[HT.sIx_none,HT.sIx_nat,HH,Nat.sub_zero];rcases tZ n ↑vs with h|h
 ·rw[rL h]
 ·rw[Nat.min_eq_right h,vj (uj _),vj h]
def Dv {ns:oj Int}:∀{ys:oj V},(∀y∈ys,y∈ns.map V.int)->∃O:oj Int,ys=O.map V.int
 | [],_=>[[]:1]
 |y::r,h=>by
  erw[Ae.mp (h y ui),i,_,e];obtain⟨O,U⟩:=Dv (ys:=r) λz Z=>h z (uh _ Z);exact⟨i::O,by rw[U,<-e];rfl⟩
def BQ {K:o0}(h:SqL K H q xs)(s:ic H H'):SqL K H' q xs:=SqL.keepK (λo e=>s _ _ e) h
nonrec def Abc (i:Int):Str:=V2 i
nonrec def nK (k:Nat):Str:="n"++Abc (8+(k:Int))
def Pd:∀k:Nat,k<52->nm (nK k)=v_/\↑(nK k)<=4:=by decide+kernel
def S8:(N8++(V1 52).map nK).Nodup:=by decide+kernel
nonrec def ZZ:oj Str:= ["zz"]
def Sq:nm "zz"=v_/\("zz":Str).length<=4:=by decide+kernel
nonrec def A60:oj Str:=N8++(V1 52).map nK
nonrec def NmU (zs:oj Str):Prop:=Nm4 zs/\zs.Nodup/\∀z∈zs,z∈A60
def C7 (h1:1<=n)(h2:n<=8):NmU (N8.take n):=by
 have e:↑(N8.take n)=n:=by rw[vN];show min n 8=n;omega
 exact[[():():λz O=>Pf z (R1 O)]:Tu (FA _ _) S9:λz O=>vh _ (R1 O)]
variable {j:Nat}
def Pe (h:j<=52):NmU (N8++(V1 j).map nK):=by
 refine⟨⟨by rw[uA];show 1<=8+_;omega,by rw[uA,ue,Te];show 8+j<=60;omega,λz O=>?_⟩,Tu (TV (tD _) (rB _ (List.range_sublist.mpr h))) S8,λz O=>(TV (tD N8) (rB nK (List.range_sublist.mpr h))).mem O⟩
 rcases Ac.mp O with h1|h1
 ·exact Pf z h1
 ·erw[Ae.mp h1,k,U,rfl];exact Pd k (by have:=List.mem_range.mp U;omega)
inductive B9 (K:PySem.W.Frag):Sp
 |mk (q:Addr)(ns:List Int)(_:vs= [.ref q])(_:SqL K H q (ns.map V.int))(_:∀(L:Addr)(zs:List Str)(H':Hp),ic H H'->H' L=u_ (.lst (zs.map V.str))->NmU zs->Q (.ref L) H')
inductive LG:Sp
 |mk (p L:Addr)(zs:List Str)(j:Int)(_:vs= [.ref p,.ref L,.int j])(_:0<=j)(_:j<=1000)(_:lX H p)(_:H L=u_ (.lst (zs.map V.str)))(_:Nm4 zs)(_:∀(v:V)(d:D)(H':Hp),wL d->Is H' d v->lX H' p->iR p H H'->Q v H')
inductive LE (K:PySem.W.Frag):Sp
 |mk (q:Addr)(ns:List Int)(_:vs= [.ref q])(_:SqL K H q (ns.map V.int))(_:∀(L:Addr)(ps:List (Str×D))(us:List V)(H':Hp),ic H H'->H' L=u_ (.lst us)->L2.IsL H' (ps.map prD) us->Aax ps->(∀p∈ps,↑p.1<=4/\p.1∈A60)->↑ps<=60->Q (.ref L) H')
inductive EF (K:PySem.W.Frag):Sp
 |mk (q:Addr)(ns:List Int)(st:Int)(n:Nat)(_:vs= [.ref q,.int st,.int (n:Int)])(_:SqL K H q (ns.map V.int))(_:0<=st)(_:st<1000)(_:n<=100)(_:∀(L:Addr)(zs:List Str)(H':Hp),ic H H'->H' L=u_ (.lst (zs.map V.str))->(∀z∈zs,nm z=v_/\↑z<=4)->↑zs=n->Q (.ref L) H')
def CV:#[T,2,a.Ji,a.Jx,["script"],(B9 K)]:=by
 have kU:=#[MN,T];exists 9,T.iM,Yi
 erw[h,q,ns,rfl,hq,k];have hs:=uD;exists 3,%[#[qC,(1),Yi.nd,#[qu,kU,hr.mono (),T.l6,#v[pv 0,qh]]],#[qC,(2),Yi.nd,#[QF,#v[qj,qj,qj,qj,qj,qj,qj,qj]]],#[qG,#[qr,Qq,#[qY,Xc,#[qY,pL,pv 1,qh],qh],qh],%[|#[qp,#[qY,ww,pv 2,#[xG,["k"],[],Kz,#[nO,7,_,T.jA,#v[qh,#[qY,yJ,qh,#[qY,Xc,#[qY,pL,pv 1,qh],qh]]],_,_],(λ_ _ _ _ _ _=>#[qQ,(0),(show Vd (["k"]:oj Str) by decide+kernel)]),(λ_ _ _ _ _ _=> @yM _),(λ_ _ _ _ _ _=>#[qY,Qf,qj,#[Ql,YO,T.zn,Ut,#v[pv 0]]])]]]],qw]|#[qp,#[Xn,Ca,pv 2,Zu,#[XT,#[qY,yJ,qh,#[qY,Xc,pv 1,qh]]]]]]
 exists 8,N1,q1
 exists 0,q,ns,(0),1,(),hq,λc=>q1 _ _ ?_
 exists 8,N2,q2
 exists sml rfl,λl0 U=>q2 _ _ ?_;have Z:=qf U (.lst (N8.map V.str));have e0:(upd H l0 (.lst (N8.map V.str))) l0=u_ (.lst (N8.map V.str)):=qg;show mQ _ _ _ _ (upd H l0 (.lst (N8.map V.str)));generalize upd H l0 (.lst (N8.map V.str))=H0 at Z e0⊢;exists 8,N3,q3
 exists 0,_,0,1,[():()],_,0,1,(by show(0:Int)<8;decide),1,0,lI (λ_=>?_) (λ_=>q3 _ _ ?_)
 ·have m1:0<=c/64%52/\c/64%52<52:=[Ui _ ():vZ _ ()]
  exists 0,0,_,0,1,[():()],_,0,1,(by show(0:Int)<52;decide),_,0,1,_,0,⟨(),(),(),()⟩,λD hD=>?_
  obtain⟨j,hj,aa⟩:∃j:Nat,(9+c/64%52-8).toNat=j/\j<=52:=[0:()]
  rw[hj];refine JK (lo:=8) (n:=j) (tl:= []) (λi ys H'=>ys=((V1 i).map nK).map V.str/\ic H0 H') (yr ()) [1:qf hD _] ?_ ?_
  ·rintro i ys H' hi ⟨rfl,s1⟩ O hy R hR;have hn:=Pd i ()
   have ac:(8+(i:Int)).natAbs.log2<1920:=Uc (UQ _) ()
   exists 0,0,ac,_,0,1,?_,?_
   ·have:=hn.2;rw[<-sI];exact mI (uQ this ())
   ·refine hR _ H' O ⟨?_,λb o e=>by rw[qk (ql e hD)];exact s1 b o e⟩
    rw[Hm,uz,uz]
    rfl
  ·rintro ys H' ⟨rfl,s1⟩ O;have e1:=s1 _ _ e0;erw[Pe aa,n1,n2]
   exists l0,D,_,0,1,e1,O,?_,λt ht=>?_
   ·rw[ue,ue,<-uA];exact mI (by have:=n1.2.1;omega)
   ·refine k t (N8++(V1 j).map nK) _ ((Z.trans s1).trans (qf ht _)) ?_ [n1:n2];rw[qg,uz]
 ·have m1:0<=c%8/\c%8<8:=[Ui _ ():vZ _ ()]
  obtain⟨n,hn,ad,ae⟩:∃n:Nat,1+c%8=(n:Int)/\1<=n/\n<=8:=⟨(1+c%8).toNat,(),(),()⟩
  exists 0,0,_,0,1,(by show(0:Int)<8;decide),_,0,1
  try dsimp only
  rw[hn]
  exists 0,l0,0,SqL.of e0,λl hl=>?_;rw[AI,<-List.map_take];exact k l (N8.take n) _ (Z.trans (qf hl _)) qg (C7 ad ae)
def MB:#[T,2,a.Wj,a.Wx,["pot","names","k"],LG]:=by
 have qH:=#[Y4,T];exists 9,T.mL,wC
 erw[h,p,L,zs,j,rfl,ad,ae,hP,hL,hN,k];have ac:=hP.ne_strs hL;exists 3,%[#[qC,(3),wC.nd,#[qI,yi,pv 1,#[qY,Xc,#[qY,yJ,#[qY,yJ,pv 2,qh],#[qu,qH,hr.mono (),T.ig,#v[pv 0,qh]]],#[qy,qN,T.yx,uK,#v[pv 1]]]]]|#[qp,#[qB,#v[qj,#[qB,#v[#[qY,Qf,qj,pv 3],qj,qj]]]]]]
 exists 0,0,_,0,1,0,p,(3),1,hP,(),(),λd1 H1 a0 a1 P1 K1=>?_
 have U:=K1 _ _ hL ac;have Z:0<(↑(zs.map V.str):Int):=by rw[ue];have:=hN.1;omega
 exists _,0,1,0,L,0,.inl (SqL.of U),_,0,1,Z;erw[yZ (xs:=zs.map V.str) (i:=(j+1+d1)%(↑(zs.map V.str):Int)) (Ui _ ()) (vZ _ Z),x1,aa]
 erw[Ae.mp (Y7 aa),z,hz,rfl]
 exists L,_,_,0,1,SqL.of U,aa;have O:=hN.2.2 z hz;have ta:Wd 7 "text a ":=[():uj _]
 have wz:Wd 4 z:=[C4 O.1:O.2]
 exists 0,_,0,1,mI (by have:=O.2;have:=ta.2;omega),sml rfl,λt ht=>?_
 have all:∀y∈(["text a "++z,"ask b a","say b"]:oj Str),Wd 20 y:=λy hy=>by
  simp![uG,uH,uO] at hy;rcases hy with rfl|rfl|rfl
  ·exact ta.cat wz ()
  ·exact[():()]
  ·exact[():()]
 have s2:=qf ht (.tup ((["text a "++z,"ask b a","say b"]:oj Str).map V.str));exact BP (.inr rfl) (nc (by show 3<=14;decide) all) (we all ht) λt2 H2 s3 i3 h3=>k _ _ H2 h3 i3 ((P1.same s2).same s3) ((K1.trans (iR.of s2)).trans (iR.of s3))
def E7:#[T,7,a.Xt,a.Xj,["script"],(LE K)]:=by
 have YL:=#[CV,T];have aa:=#[MB,T];have qH:=#[Y4,T];have Jh:=#[pP,T];have U:=#[Mr,T];exists 9,T.lZ,QW
 erw[h,q,ns,rfl,hq,k];have hs:=uD;exists 3,%[#[qC,(1),QW.nd,#[qu,YL,hr.mono (),T.iM,#v[pv 0]]],#[qC,(2),QW.nd,#[QF,qd]],#[xf,#[Yy,#v[#[qy,qN,T.yx,uK,#v[pv 1]]]],#[qQ,(3),QW.nd],%[#[qC,(4),QW.nd,#[qy,#[wy,1,rfl],T.z_sum,HQ,#v[#[Cn,9,pv 0,#[XT,#[qY,yJ,qh,pv 3]],#[qy,#[D5,1,rfl],T.z_max,boot_max,#v[qh,#[qy,qN,T.yx,uK,#v[pv 1]]]],_]]]],#[qC,(5),QW.nd,#[qu,Jh,hr.mono (),T.lV,#v[pv 4,pv 3]]]|@qG _ _ _ _ _ _ _ _ #[s9,7,#[qr,pK,#[qy,qN,T.yx,uK,#v[pv 1]],qh],#[ki,4,#[qr,Qq,#[qu,qH,hr.mono (),T.ig,#v[pv 5,qh]],qh]]].pt %[|#[qZ,#[jY,vc,vL,vM,jc,pv 2,#v[#[qB,#v[#[qI,yi,pv 1,pv 3],#[qu,aa,hr.mono (),T.mL,#v[pv 5,pv 1,pv 3]]]]]]]] %[|#[qG,#[qr,EX,#[qY,Xc,pv 4,qh],qh],%[|#[qZ,#[jY,vc,vL,vM,jc,pv 2,#v[#[qB,#v[#[qI,yi,pv 1,pv 3],#[qu,U,hr.mono (),T.mi,#v[pv 5,pv 1]]]]]]]],qw]]]]|#[qp,pv 2]]
 exists 8,N1,q1
 exists 0,q,ns,1,hq,λl zs H1 s1 e1 hU=>q1 _ _ ?_;erw[hU,hN,ay];exists 8,N2,q2
 exists uW _,λL hL=>q2 _ _ ?_;exists 8,N3,q3;have s2:=s1.trans (qf hL (.lst ([]:oj V)));have aE:H L=none:=s1.free hL;have aF:l≠L:=ql e1 hL;have e2:=qf hL (.lst ([]:oj V)) _ _ e1;have eL:(upd H1 L (.lst [])) L=u_ (.lst []):=qg;generalize upd H1 L (.lst [])=H2 at s2 e2 eL⊢;have aK:=hN.2.1
 exists 0,l,0,.inl (SqL.of e2),↑zs,by rw[ue],(),()
 let J_:Nat->L2.St->Hp->Prop:=λi σ H'=>∃(ps:oj (Str×D)) (us:oj V) (x3 x4 x5:om V),σ= [u_ (.ref q),u_ (.ref l),u_ (.ref L),x3,x4,x5]/\ic H H'/\H' l=u_ (.lst (zs.map V.str))/\H' L=u_ (.lst us)/\L2.IsL H' (ps.map prD) us/\(ps.map (·.1)).Sublist (zs.take i)/\∀p∈ps,wL p.2
 refine Zx (n:=↑zs) J_ ⟨[],[],US,US,US,1,s2,e2,eL,1,List.nil_sublist _,λp hp=>by simp at hp⟩ ?_ ?_
 ·rintro i σ H' hi ⟨ps,us,x3,x4,x5,rfl,sm,el,ap,ak,O,ad⟩;have aL:↑ps<=60:=by
   have h1:=O.length_le;rw[ue,vN] at h1;omega
  have aG:=↑ak;rw[ue] at aG;have aM:(↑(zs.map V.str):Int)=(↑zs:Int):=by rw[ue]
  show mQ _ _ _ _ H';exists 8,B1,b1
  exists 0,0,_,0,1,0,0,l,0,.inl (SqL.of el),_,0,0,(by split<;>omega),q,0,BQ hq sm,λys y0 _ aA aH=>?_
  erw[Dv aA,ms,rfl];have sy:=qf aH (.lst (ms.map V.int));have ey:(upd H' y0 (.lst (ms.map V.int))) y0=u_ (.lst (ms.map V.int)):=qg;have ag:=sy _ _ ap;have ah:=sy _ _ el;generalize upd H' y0 (.lst (ms.map V.int))=H3 at sy ey ag ah⊢;have am:=ak.mono sy.tk;have aB:=sm.trans sy
  exists y0,ms,1,SqL.of ey,b1 _ _ ?_;exists 8,B2,b2
  exists 0,0,_,0,(),(),λp H4 hp s4 P4=>b2 _ _ ?_
  have ac:=s4 _ _ ah;have aq:=s4 _ _ ag;have au:L≠p:=ql ag hp;have ae:l≠p:=ql ah hp;have aw:i<↑zs:=hi;have ax:atI (zs.map V.str) (0+(i:Int))=u_ (V.str zs[i]):=by
   rw[show(0:Int)+(i:Int)=((i:Nat):Int) by omega]
   exact qU (by rw[uN,uq aw];rfl)
  have hz:=hN.2.2 _ (uY aw);have put:∀(v:V) (d:D) (H5:Hp) (x3 x4 x5:om V),wL d->Is H5 d v->iR p H4 H5->∀t,H5 t=US->Ck (.ref L) [.ref t] (upd H5 t (.tup [.str zs[i],v])) (λ_ H1=>J_ (i+1) [u_ (.ref q),u_ (.ref l),u_ (.ref L),x3,x4,x5] H1):=by
   intro v d H5 x3 x4 x5 hd hv Z t ht;have af:ic H3 H5:=Z.same s4 hp;have st:=qf ht (.tup [.str zs[i],v]);have aC:Is (upd H5 t (.tup [.str zs[i],v])) (prD (zs[i],d)) (.ref t):=Is.new (ds:= [.str zs[i],d]) ⟨_,0,[1:mI ()],_,0,hv,1⟩ ht
   generalize upd H5 t (.tup [.str zs[i],v])=H6 at st aC⊢;have al:=af.trans st;have aD:=al _ _ ag
   exists L,us,0,1,aD,()
   have tk:Tk H6 (upd H6 L (.lst (us++ [.ref t]))):=Tk.updL aD
   exists ps++ [(zs[i],d)],us++ [.ref t],_,_,0,λb o e=>?_,?_,qg,?_,?_,λp' aI=>?_
   ·rw[qk (ql e aE)];exact al _ _ (aB _ _ e)
   ·rw[qk aF];exact al _ _ ah
   ·rw[uz];exact((am.mono al.tk).mono tk).append (L2.IsL.one (aC.mono tk))
   ·rw[Er aw,uz];exact O.append (tD _)
   ·rcases Ac.mp aI with h|h
    ·exact ad p' h
    ·cases Ab.mp h;exact hd
  have ao:∀(H5:Hp) (x3 x4 x5:om V),iR p H4 H5->J_ (i+1) [u_ (.ref q),u_ (.ref l),u_ (.ref L),x3,x4,x5] H5:=λH5 x3 x4 x5 Z=>by
   have af:ic H3 H5:=Z.same s4 hp;exact⟨ps,us,_,_,0,aB.trans af,af _ _ ah,af _ _ ag,am.mono af.tk,O.trans (by rw[Er hi];exact List.sublist_append_left _ _),ad⟩
  exists 0,l,0,.inl (SqL.of ac),_,0,1,0;by_cases c8:(8:Int)<(↑(zs.map V.str):Int)
  ·refine lP (ud c8) ?_
   exists 0,p,(3),1,P4,(),(),λd5 H5 a5 b5 P5 Z=>[1:0:?_]
   by_cases c3:d5=0
   ·refine lP (ud (by rw[c3])) ?_
    exists 0,.inl [1:_:SqL.of (Z _ _ aq au)],0,0,l,_,_,V.str zs[i],1,1,SqL.of (Z _ _ ac ae),ax;exact⟨0,0,0,p,l,zs,0,(),(),P5,Z _ _ ac ae,hN,λv d H6 hd hv P6 K6=>[sml rfl:put v d H6 _ _ _ hd hv (Z.trans K6)]⟩
   ·refine lr (uf (λz=>c3 (V.int.inj z))) ?_
    exists 0,_,0,1,(by show(0:Int)<11;decide),1,0,lI (λ_=>?_) (λ_=>ao _ _ _ _ Z)
    exists 0,.inl [1:_:SqL.of (Z _ _ aq au)],0,0,l,_,_,V.str zs[i],1,1,SqL.of (Z _ _ ac ae),ax;exact⟨0,0,p,l,zs,1,P5,Z _ _ ac ae,hN,λv d H6 hd hv P6 K6=>[sml rfl:put v d H6 _ _ _ hd hv (Z.trans K6)]⟩
  ·refine lr (uf c8) ?_;have Z:=iR.refl p H4;have P5:=P4
   exists 0,_,0,1,(by show(0:Int)<11;decide),1,0,lI (λ_=>?_) (λ_=>ao _ _ _ _ Z)
   exists 0,.inl [1:_:SqL.of (Z _ _ aq au)],0,0,l,_,_,V.str zs[i],1,1,SqL.of (Z _ _ ac ae),ax;exact⟨0,0,p,l,zs,1,P5,Z _ _ ac ae,hN,λv d H6 hd hv P6 K6=>[sml rfl:put v d H6 _ _ _ hd hv (Z.trans K6)]⟩
 ·rintro σ H' ⟨ps,us,x3,x4,x5,rfl,sm,el,ap,ak,O,ad⟩;rw[Us] at O;have aJ:=O.length_le;rw[ue] at aJ;refine q3 _ _ ?_;exact[0:k L ps us H' sm ap ak [[λz hz=>(hN.2.2 z (O.mem hz)).1:ay.1.sublist O]:ad] (λp hp=>[(hN.2.2 _ (O.mem (Hn hp))).2:ay.2 _ (O.mem (Hn hp))]) ()]
def Mo:#[T,3,a.jN,a.jR,["script"],(B9 K)]:=by
 have Z:=#[CV,T];exists 9,T.lE,jm
 erw[h,q,ns,rfl,hq,k];exists 3,%[#[qC,(1),jm.nd,#[qu,Z,hr.mono (),T.iM,#v[pv 0]]],#[qG,#[qr,Cu,#[qy,qN,T.yx,uK,#v[pv 1]],qh],%[|#[qp,#[QF,#v[qj,qj,qj,qj,qj,qj,qj,qj]]]],qw]|#[qp,pv 1]]
 exists 0,q,ns,1,hq,λl zs H1 s1 U hU=>?_
 exists 0,l,0,.inl (SqL.of U),_,0,1,0,lI (λ_=>?_) (λ_=>[0:k l zs H1 s1 U hU])
 exists sml rfl,λl0 O=>?_;exact k l0 N8 _ (s1.trans (qf O _)) qg (C7 (n:=8) () ())
def Ie:#[T,4,a.ja,a.jg,["script","salt","many"],(EF K)]:=by
 have Zg:=#[Mo,T];have qH:=#[Y4,T];have Jh:=#[pP,T];exists 9,T.lh,yy
 erw[h,q,ns,st,n,rfl,hq,h0,h1,hn,k];have hs:=uD;exists 3,%[#[qC,2,(3),4,yy.nd,rfl,VI rfl,#[qu,Jh,hr.mono (),T.lV,#v[#[qy,#[wy,1,rfl],T.z_sum,HQ,#v[pv 0]],pv 1]],_,_],#[qC,2,(4),4,yy.nd,rfl,VI rfl,#[qY,ww,#[qu,Zg,hr.mono (),T.lE,#v[pv 0]],#[QF,#v[qj]]],_,_]|#[qp,#[xG,["k","names","pot"],[4,3],Ky (qi Q5) ["script","salt","many","pot","names"],#[Yy,#v[pv 2]],(λ_ _ _ _ _ _=>#[qQ,(0),(show Vd (["k","names","pot"]:oj Str) by decide+kernel)]),(λ_ _ _ _ _ _=> @yM _),(λ_ _ _ _ _ _=>#[qI,#[Iy,1,K,rfl],pv 1,#[qu,qH,hr.mono (),T.ig,#v[pv 2,#[qy,#[kY,1,K,rfl],T.yx,uK,#v[pv 1]]]]])]]]
 exists 8,N1,q1
 exists 0,q,ns,1,hq,0,_,0,h0,h1,λp H1 ae s1 P1=>q1 _ _ ?_;exists 8,N2,q2
 exists 0,q,ns,1,BQ hq s1,λl zs H2 s2 e2 hU=>?_
 exists sml rfl,λl3 h3=>?_;have s3:=qf h3 (.lst [V.str "zz"]);have hl:=hU.1.2.1
 exists l,l3,_,0,1,s3 _ _ e2,qg,(by rw[ue];show _+1<=UX;omega),λl4 h4=>q2 _ _ ?_
 have s4:=qf h4 (.lst (zs.map V.str++ [V.str "zz"]));have e4:upd (upd H2 l3 (.lst [V.str "zz"])) l4 (.lst (zs.map V.str++ [V.str "zz"])) l4=u_ (.lst ((zs++ZZ).map V.str)):=by
  rw[qg,uz]
  rfl
 have O:=(s2.trans s3).trans s4;have P4:=P1.same O;have hz:∀z∈zs++ZZ,nm z=v_/\↑z<=4:=λz hz=>by
  rcases Ac.mp hz with h|h
  ·exact hU.1.2.2 z h
  ·cases Ab.mp h;exact Sq
 have ah:↑(zs++ZZ)=↑zs+1:=uA;generalize upd (upd H2 l3 (.lst [V.str "zz"])) l4 (.lst (zs.map V.str++ [V.str "zz"]))=H4 at e4 O P4⊢;have ac:=P4.ne_strs e4
 exists 0,0,(),(),λD hD=>?_
 have nD:D≠p:=(P4.free hD).symm;have af:H p=none:=ae;refine JK (lo:=0) (n:=n) (tl:= [u_ (.ref l4),u_ (.ref p)]) (λi ys H'=>∃rs:oj Str,ys=rs.map V.str/\(∀r∈rs,nm r=v_/\↑r<=4)/\lX H' p/\(∀b o,H4 b=u_ o->b≠p->H' b=u_ o)/\↑rs=i) (yr ()) ⟨[],1,(λb hb=>by simp at hb),P4.same (qf hD _),λb o e _=>qf hD _ _ _ e,1⟩ ?_ ?_
 ·rintro i ys H' hi ⟨rs,rfl,U,P',K',Z⟩ aa hy R hR;have e5:=K' _ _ e4 ac
  exists 0,0,0,l4,0,.inl (SqL.of e5),p,0,P',(by rw[ue];omega),(by rw[ue];omega),λd6 H6 a6 b6 P6 K6=>?_
  erw[yZ (xs:=(zs++ZZ).map V.str) (i:=d6) a6 b6,x1,ad];erw[Ae.mp (Y7 ad),z,ag,rfl]
  exists l4,_,_,0,1,SqL.of (K6 _ _ e5 ac),ad;refine hR _ H6 (K6 _ _ aa nD) ⟨rs++ [z],by rw[uz];rfl,λb hb=>?_,?_,λb o e np=>?_,by rw[uA,Z];rfl⟩
  ·rcases Ac.mp hb with h|h
   ·exact U b h
   ·rw[vW] at h;subst h;exact hz b ag
  ·erw[P6,x,e2,h2];exact⟨x,by rwa[qk nD.symm],h2⟩
  ·rw[qk (ql e hD)];exact K6 _ _ (K' b o e np) np
 ·rintro ys H' ⟨rs,rfl,U,P',K',Z⟩ aa;exact k D rs H' (λb o e=>K' b o (O _ _ (s1 _ _ e)) (ql e af)) aa U Z
inductive LR:Sp
 |mk (v:V)(d:D)(_:vs= [v])(_:Is H d v)(_:∀(u:V)(H':Hp),ic H H'->((QI d).isSome=v_->u= .non)->((QI d).isSome=UT->u≠ .non)->Q u H')
inductive B6:Sp
 |mk (v:V)(d:D)(_:vs= [v])(_:Is H d v)(_:∀H',ic H H'->Q (.bl (QI d).isSome) H')
def MO:#[C,4,a.WA,a.Wu,["tree"],LR]:=by
 have Z:=#[CJ,T,C];exists 9,T.mO,pB
 erw[h,v,d,rfl,hv,k];exists 3,%[|#[qp,#[qI,qF,#[qu,Z,hr.mono (),T.lK,#v[pv 0]],qh]]]
 exists 0,v,d,1,hv,λu H' x y s' U hu=>?_;erw[hu,p,ws,rfl,hp,w1,r1,rfl,h1,w2,r2,rfl,h2,h3];cases(show r2= [] from h3)
 exists p,_,_,0,1,SqT.of hp,1,k _ H' s' (λe=>?_) (λe=>?_)
 ·erw[Xp e,rs,O];erw[U.1 rs O,_,rfl];exact h2
 ·have hn:QI d=none:=by
   cases hh:QI d with
   |none=>rfl
   |some rs=>rw[hh] at e;cases e
  erw[U.2 hn,i,rfl];intro z;rw[z] at h2;cases(show V.non= .int i from h2)
def ZO:#[C,5,a.f_is_rule,a.d_is_rule,["value"],B6]:=by
 have O:=#[MO,T,C];exists 9,T.lW,AZ,U
 erw[h,v,d,rfl,Z,k];exists 3,%[|#[qp,#[yT,yL,#[qu,O,U.mono (),T.mO,#v[pv 0]],qP,qA _]]]
 exists 0,v,d,1,Z,λu H' s' h1 h2=>[1:?_];have e:decide (u=V.non)=(QI d).isSome:=by
  cases c:(QI d).isSome with
  |true=>rw[h1 c];rfl
  |false=>exact uf (h2 c)
 have:=k H' s';rwa[<-e] at this
end
def Cg {n:Nat}:∀{ds:oj D},(∀d∈ds,(Qj n d).isSome=v_)->↑(ds.filterMap (Qj n))=↑ds/\ds=(ds.filterMap (Qj n)).map (λr=>D.str (y9 r))/\∀r∈ds.filterMap (Qj n),jU n 300 r
 | [],_=>[1:1:λr h=>nomatch h]
 |d::ds,h=>by
  erw[Xp (h d ui),r,O];obtain⟨h1,h2,h3⟩:=Cg (n:=n) (ds:=ds) λx U=>h x (uh _ U);have hd:d= .str (y9 r)/\jU n 300 r:=by
   cases d with
   |str z=>
    obtain⟨Z,a2⟩:=sW (show wf n z=u_ r from O)
    exact⟨by rw[a2],Z⟩
   |non=>cases O
   |bl b=>cases O
   |int i=>cases O
   |lst=>cases O
   |dct=>cases O
   |tup xs=>cases O
  rw[U2 O];exists by rw[um,um,h1],by rw[uB,<-h2,hd.1],λx U=>?_
  rcases Aa.mp U with rfl|U
  ·exact hd.2
  ·exact h3 x U
variable {rs:oj Rw}
def nI {d:D}(h:QI d=u_ rs):d=Yp rs/\ya rs:=by
 cases d with
 |tup ds=>
  rw[Xy] at h;split at h
  ·rename_i O
   simp![uC,uZ] at O;erw[O,[[c1,c2],U],Z];cases h;erw[Cg (List.all_eq_true.mp U),h1,h2,h3];have e:D.tup ds=Yp (ds.filterMap (Qj ↑ds)):=by
    unfold Yp;rw[<-h2]
   refine⟨e,⟨(),(),?_,by rwa[<-e]⟩⟩
   rwa[h1]
  ·cases h
 |non=>cases h
 |bl b=>cases h
 |int i=>cases h
 |str z=>cases h
 |lst=>cases h
 |dct=>cases h
nonrec def GMT:oj Str:= ["begin","look","wanted","take","full"]
structure GFl (fs:oj (Str×V))(nv ov mv av rv ev:V):Prop where
 zC:fs.lookup ("name":Str)=u_ nv
 ZC:fs.lookup ("order":Str)=u_ ov
 Yx:fs.lookup ("made_by":Str)=u_ mv
 yO:fs.lookup ("rule_asks":Str)=u_ av
 Qr:fs.lookup ("rule_run":Str)=u_ rv
 f_end:fs.lookup ("end":Str)=u_ ev
 meth:∀m∈GMT,fs.lookup m=US
 len:↑fs<=20
section
variable {fs:oj (Str×V)}{nv ov mv av rv ev:V}
def GFl.set_made_by {u:V}(h:GFl fs nv ov mv av rv ev):GFl (iB "made_by" u fs) nv ov u av rv ev:=by
 refine⟨?_,?_,?_,?_,?_,?_,λm hm=>?_,by rw[YR h.Yx];exact h.len⟩
 all_goals rw[qJ]
 all_goals first|rw[A6 rfl]|(rw[A4 ()];first|exact h.zC|exact h.ZC|exact h.Yx|exact h.yO|exact h.Qr|exact h.f_end)|(rw[A4 (λe=>by subst e;revert hm;decide+kernel)];exact h.meth m hm)
def GFl.set_rule_asks {u:V}(h:GFl fs nv ov mv av rv ev):GFl (iB "rule_asks" u fs) nv ov mv u rv ev:=by
 refine⟨?_,?_,?_,?_,?_,?_,λm hm=>?_,by rw[YR h.yO];exact h.len⟩
 all_goals rw[qJ]
 all_goals first|rw[A6 rfl]|(rw[A4 ()];first|exact h.zC|exact h.ZC|exact h.Yx|exact h.yO|exact h.Qr|exact h.f_end)|(rw[A4 (λe=>by subst e;revert hm;decide+kernel)];exact h.meth m hm)
def GFl.set_rule_run {u:V}(h:GFl fs nv ov mv av rv ev):GFl (iB "rule_run" u fs) nv ov mv av u ev:=by
 refine⟨?_,?_,?_,?_,?_,?_,λm hm=>?_,by rw[YR h.Qr];exact h.len⟩
 all_goals rw[qJ]
 all_goals first|rw[A6 rfl]|(rw[A4 ()];first|exact h.zC|exact h.ZC|exact h.Yx|exact h.yO|exact h.Qr|exact h.f_end)|(rw[A4 (λe=>by subst e;revert hm;decide+kernel)];exact h.meth m hm)
def GFl.set_end {u:V}(h:GFl fs nv ov mv av rv ev):GFl (iB "end" u fs) nv ov mv av rv u:=by
 refine⟨?_,?_,?_,?_,?_,?_,λm hm=>?_,by rw[YR h.f_end];exact h.len⟩
 all_goals rw[qJ]
 all_goals first|rw[A6 rfl]|(rw[A4 ()];first|exact h.zC|exact h.ZC|exact h.Yx|exact h.yO|exact h.Qr|exact h.f_end)|(rw[A4 (λe=>by subst e;revert hm;decide+kernel)];exact h.meth m hm)
end
structure Gc where
 (x o:o3)
 n:Str
structure Gs where
 mb:D
 ra:oj D
 run:om (Mc×Rn)
 en:D
nonrec def wW (CM:o3)(H:Hp)(x:o3)(rv:V):om (Mc×Rn)->Prop
 |none=>rv= .non
 |some (m,r)=>rv= .ref m.x/\m.x≠x/\yd CM H m r
nonrec def lR (C CM:o3)(H:Hp)(g:Gc)(s:Gs):Prop:=
 ∃(dx:o3) (fs:oj (Str×V)) (mv av rv ev:V),H g.x=u_ (.ins C dx fs)/\GFl fs (.str g.n) (.ref g.o) mv av rv ev/\Is H s.mb mv/\Is H (.tup s.ra) av/\wW CM H g.x rv s.run/\Is H s.en ev
variable {CM:o3}
def wW.same {x:o3}{o:om (Mc×Rn)}(h:wW CM H x rv o)(s:ic H H'):wW CM H' x rv o:=by
 cases o with
 |none=>exact h
 |some p=>exact[h.1:h.2.1:h.2.2.same s]
def lR.same {g:Gc}{s:Gs}(h:lR C CM H g s)(sm:ic H H'):lR C CM H' g s:=by
 erw[h,dx,fs,mv,av,rv,ev,e,f,i,j,k,l];exact⟨dx,fs,mv,av,rv,ev,sm _ _ e,f,i.mono sm.tk,j.mono sm.tk,k.same sm,l.mono sm.tk⟩
def yd.put {m:Mc}{r:Rn}{x:o3}{fs:oj (Str×V)}(h:yd CM H m r)(e:H x=u_ (.ins C dx fs))(n:m.x≠x):yd CM (upd H x (.ins C dx fs')) m r:=by
 erw[h,U,Z,rv,ru,tv,gv,e1,f,i,j,b,O,gl,t];have tk:Tk H (upd H x (.ins C dx fs')):=Tk.updI e;have n1:m.db≠x:=Ys.ne e b;have n2:m.dg≠x:=λz=>by rw[z,e] at O;cases O
 exact⟨U,Z,rv,ru,tv,gv,by rwa[qk n],f,i.mono tk,j.mono tk,b.move tk (qk n1),by rwa[qk n2],gl.mono tk,t.mono tk⟩
def wW.put {x:o3}{fs:oj (Str×V)}{o:om (Mc×Rn)}(h:wW CM H x rv o)(e:H x=u_ (.ins C dx fs)):wW CM (upd H x (.ins C dx fs')) x rv o:=by
 cases o with
 |none=>exact h
 |some p=>exact[h.1:h.2.1:h.2.2.put e h.2.1]
structure Gv (g:Gc)(H H':Hp):Prop where
 kept:∀b o,H b=u_ o->b≠g.x->H' b=u_ o
 tk:Tk H H'
def WE {g:Gc}{fs:oj (Str×V)}{mv av ev:V}{s:Gs}(e:H g.x=u_ (.ins C dx fs))(f:GFl fs' (.str g.n) (.ref g.o) mv av rv ev)(i:Is H s.mb mv)(j:Is H (.tup s.ra) av)(k:wW CM H g.x rv s.run)(l:Is H s.en ev):
  lR C CM (upd H g.x (.ins C dx fs')) g s/\Gv g H (upd H g.x (.ins C dx fs')):=by
 have tk:Tk H (upd H g.x (.ins C dx fs')):=Tk.updI e;exact⟨⟨dx,fs',mv,av,rv,ev,qg,f,i.mono tk,j.mono tk,k.put e,l.mono tk⟩,⟨λb o h n=>by rwa[qk n],tk⟩⟩
nonrec def nZ (s:Gs)(r:Rn):Gs:=if QJ r.th=v_ then s else{s with en:=r.th}
inductive LF (C CM:Addr):Sp
 |mk (g:Gc)(s:Gs)(m:Mc)(r:Rn)(_:vs= [.ref g.x])(_:lR C CM H g s)(_:s.run=u_ (m,r))(_:Th r.th)(_:∀H',Gv g H H'->lR C CM H' g (nZ s r)->Q .non H')
section
variable {P:o9}{w:og}{K:o0}{mg:Str->om o6}{base:o8}{a:Ad}{g:Ga}
def CQ:#[T,2,a.zX,a.zy,["self"],(LF a.qK a.qm)]:=by
 have Qm:=#[pO,T];have QN:=#[CN,T];exists 9,T.lO,kj
 erw[h,g,st,m,r,rfl,hG,O,aa,k];exists 3,%[|#[qG,#[Qo,#[Qd,#[QA,#[qO,5,pv 0,rfl],T.qt,T.il,Qm]]],%[|#[Qc,#[QA,#[qO,5,pv 0,rfl],T.qt,T.iy,QN]]],qw]]
 erw[id hG,dx,fs,mv,av,rv,ev,e,f,i,j,hR,l];rw[O] at hR;erw[hR,rfl,hn,Z];erw[id Z,dm,fm,ac,ru,tv,gv,em,U,i1,i2,i3,i4,i5,i6]
 exists 0,g.x,_,dx,fs,0,e,T.qR,T.qW,f.Qr,m.x,dm,fm,1,em,U.meth _ (),m,r,1,Z,aa,0
 cases c:QJ r.th with
 |true=>
  refine iS (k H [λ_ _ h _=>h:Tk.refl H] ?_);unfold nZ;rwa[A6 c]
 |false=>
  refine i9 ?_
  exists 0,g.x,_,dx,fs,0,e,T.qR,T.qW,f.Qr,m.x,dm,fm,1,em,U.meth _ (),m,r,1,Z,λv hv=>?_
  exists 5
  refine⟨0,g.x,_,dx,fs,1,e,T.qR,T.Q2,by have:=f.len;omega,?_⟩
  have hS:nZ st r={st with en:=r.th}:=by
   unfold nZ;rw[c];exact A4 uc
  obtain⟨m1,m2⟩:=WE (CM:=a.qm) (s:={st with en:=r.th}) e (f.set_end (u:=v)) i j (by rw[O];exact[1:hn:Z]) hv
  refine k _ m2 ?_;rw[hS];exact m1
inductive BW (CM:Addr):Sp
 |mk (o:Addr)(v:V)(rs:List Rw)(own:Str)(_:vs= [.ref o,v,.str own])(_:Is H (Yp rs) v)(_:ya rs)(_:nm own=v_)(_:∀(mc:Mc)(H':Hp),ic H H'->H mc.x=US->H mc.db=US->H mc.dg=US->mc.rs=rs->mc.own=own->yd CM H' mc (mw rs own [] 300 B0 1 0)->Q (.ref mc.x) H')
def CF:#[C,8,a.YE,a.YH,["self","rule","own"],(BW a.qm)]:=by
 have Y6:=#[Ak,T,C];exists 9,T.iP,JW
 erw[h,o,v,rs,own,rfl,hv,hR,hn,k];have hl:=WY hn;have hI:∀H:Hp,Is H (.str own) (.str own):=λH=>Ya ()
 exists 3,%[|#[qp,#[wK,T.M_Machine,Y6,T.m_Machine,T.iZ,OU,#v[pv 1,pv 2]]]]
 exists 0,0,λx dx Z aa nx=>?_;have U:ic H (upd (upd H dx (.own x)) x (.ins a.qm dx [])):=λb o h=>by rwa[qk (ql h Z),qk (ql h aa)]
 exists x,dx,v,.str own,Yp rs,.str own,1,qg,hv.mono U.tk,hI _,λz=>?_,λ_ z=>?_,λO af e1 ac e2 ag ah H' db dg kept ad ae hM=>[1:?_]
 ·rw[hR.read] at z;cases z
 ·have:mx (.str own)=true:=hn;rw[this] at z;cases z
 ·have e3:O=rs:=by
   have h1:=hR.read;rw[e1,ac.read] at h1;exact uL h1
  cases e2;subst e3;exact k ⟨x,db,dg,O,own⟩ H' (λb o h=>kept b o (U b o h) (ql h Z)) Z (U.free ad) (U.free ae) rfl rfl hM
nonrec def R0 (rs:oj Rw)(n:Str):Rn:=mw rs n [] 300 B0 1 0
structure IS (H:Hp)(g:Gc)(d:D)(s s':Gs):Prop where
 mb:s'.mb=s.mb
 ra:s'.ra=s.ra
 lack:d= .non->s'.run=US/\s'.en=flt "lack"
 rule:d≠ .non->QI d=US->s'.run=US/\s'.en=flt "rule"
 go:∀rs,QI d=u_ rs->∃mc:Mc,H mc.x=US/\H mc.db=US/\H mc.dg=US/\mc.rs=rs/\mc.own=g.n/\s'.run=u_ (mc,R0 rs g.n)/\s'.en=if QJ (R0 rs g.n).th=v_ then s.en else(R0 rs g.n).th
inductive EI (C CM CO:Addr):Sp
 |mk (g:Gc)(s:Gs)(v:V)(d:D)(_:vs= [.ref g.x,v])(_:lR C CM H g s)(_:s.run=US)(_:nm g.n=v_)(_:Is H d v)(_:(∃dx fs,H g.o=u_ (.ins CO dx fs)/\fs.lookup ("runner":Str)=US))(_:∀H' s',Gv g H H'->lR C CM H' g s'->IS H g d s s'->Q .non H')
def RP {n:Str}(h:ya rs):KZ rs (R0 rs n):=pD h 300 B0 1 0 [] rfl NU () (by have:=h.n0;omega) ⟨1,by simp[dpL],uj _⟩
def Aaw {n:Str}(h:ya rs):Th (R0 rs n).th:= .inr (RP h).two
def Al:#[C,9,a.Xs,a.Xx,["self","rule"],(EI a.qK a.qm a.qo)]:=by
 have Jz:=#[ZO,T,C];have xr:=#[CF,T,C];have Jw:=#[CQ,T];exists 9,T.lz,wR
 erw[h,g,st,v,d,rfl,hG,O,hn,hv,[ad,ae,ho,af],k];have hs:=uD;erw[id hG,dx,fs,mv,av,rv,ev,e,f,i,j,hR,l];rw[O] at hR;exists 3,%[|#[qG,#[qr,yL,pv 1,qP],%[|#[Qc,#[qB,#v[qj,qj]]]],%[|#[qG,#[Qo,#[Qd,#[qu,Jz,hr.mono (),T.lW,#v[pv 1]]]],%[|#[Qc,#[qB,#v[qj,qj]]]],%[#[Qc,#[Qg,#[qO,5,pv 0,rfl],T.qx,T.iP,xr,#v[pv 1,#[qO,5,pv 0,rfl]]]]|#[qZ,#[QA,pv 0,T.qR,T.lO,Jw]]]]]]]
 exists 0,1,0;have fl:∀(z:Str) (H:Hp) (l:o3),↑z<=100->H l=US->Is (upd H l (.tup [.str "fault",.str z])) (flt z) (.ref l):=λz H l hz hl=>Is.new (ds:= [.str "fault",.str z]) ⟨_,0,Ya (),_,0,Ya (),1⟩ hl
 have aa:↑fs<1000:=by have:=f.len;omega
 have put:∀(z:Str) (t:o3) (H':Hp),↑z<=100->ic H H'->H' t=US->((d= .non->z="lack")/\(d≠ .non->z="rule"/\QI d=US))->Q .non (upd (upd H' t (.tup [.str "fault",.str z])) g.x (.ins a.qK dx (iB "end" (.ref t) fs))):=λz t H' hz s' Z hd=>by
  have s1:=s'.trans (qf Z (.tup [.str "fault",.str z]));obtain⟨m1,m2⟩:=WE (CM:=a.qm) (g:=g) (s:={st with en:=flt z}) (s1 _ _ e) (f.set_end (u:= .ref t)) (i.mono s1.tk) (j.mono s1.tk) (by show wW _ _ _ _ st.run;rwa[O]) (fl z H' t hz Z)
  refine k _ _ [λb o h n=>m2.kept b o (s1 b o h) n:s1.tk.trans m2.tk] m1 ⟨1,1,λh=>⟨O,by rw[hd.1 h]⟩,λh _=>⟨O,by rw[(hd.2 h).1]⟩,λrs h=>?_⟩
  by_cases c:d= .non
  ·rw[c] at h;cases h
  ·rw[(hd.2 c).2] at h;cases h
 by_cases c:d= .non
 ·subst c;cases(show v= .non from hv)
  refine lP (ud rfl) [(sml rfl):λt Z=>?_]
  exists 0,g.x,_,dx,fs,1,(qf Z _) _ _ e,T.qR,T.Q2,aa;exact put "lack" t H () (ic.refl _) Z [λ_=>rfl:λh=>A8 rfl h]
 ·refine lr (uf (JC hv c)) ?_
  exists 0,v,d,1,hv,λH1 s1=>[0:?_];cases hd:QI d with
  |none=>
   refine i9 [(sml rfl):λt Z=>?_]
   exists 0,g.x,_,dx,fs,1,(qf Z _) _ _ (s1 _ _ e),T.qR,T.Q2,aa;exact put "rule" t H1 () s1 Z [λh=>A8 h c:λ_=>[1:hd]]
  |some rs=>
   refine iS ?_;erw[nI hd,ed,ac];have e1:=s1 _ _ e
   exists 5
   refine⟨0,g.x,_,dx,fs,0,e1,T.qR,T.XD,f.ZC,g.o,ad,ae,1,s1 _ _ ho,af,0,0,g.x,_,dx,fs,0,e1,T.qR,T.Yc,f.zC,g.o,v,rs,g.n,1,by rw[<-ed];exact hv.mono s1.tk,ac,hn,λmc H2 s2 nx nb ng ag ah hM=>?_⟩
   have e2:=s2 _ _ e1;have U:=s1.trans s2
   exists 0,g.x,_,dx,fs,1,e2,T.qR,T.qW,aa;have ak:mc.x≠g.x:=(ql e1 nx).symm;erw[WE (C:=a.qK) (CM:=a.qm) (g:=g) (s:={st with run:=u_ (mc,R0 rs g.n)}) e2 (f.set_rule_run (u:= .ref mc.x)) (i.mono U.tk) (j.mono U.tk) [1:ak:hM] (l.mono U.tk),m1,m2]
   erw[id m1,al,am,_,_,_,_,e3,f3,_]
   exists 0,g.x,al,am,1,e3,f3.meth _ (),g,_,mc,R0 rs g.n,1,m1,1,Aaw ac,λH3 v3 G3=>k H3 _ [λb o h n=>v3.kept b o (m2.kept b o (U b o h) n) n:(U.tk.trans m2.tk).trans v3.tk] G3 ?_
   unfold nZ
   exists 5
   refine⟨by split<;>rfl,by split<;>rfl,λh=>A8 h c,(λ_ h=>by rw[hd] at h;cases h),λao h=>?_⟩
   rw[hd] at h;cases h
   exists 5
   refine⟨mc,s1.free nx,s1.free nb,s1.free ng,ag,ah,by split<;>rfl,?_⟩
   split<;>rfl
inductive XH (C CM:Addr):Sp
 |mk (g:Gc)(s:Gs)(_:vs= [.ref g.x])(_:lR C CM H g s)(_:((s.run=US/\∃z,s.mb= .str z/\∀v H',ic H H'->Is H' (.tup [.str "rule",.str z]) v->Q v H')∨∃mc r d,s.run=u_ (mc,r)/\r.th= .tup [.str "asks",d]/\∀v,Is H d v->Q v H))
nonrec def OG:om (Mc×Rn)->oj D
 |none=> []
 |some (_,r)=>r.gs
nonrec def IJ (s:Gs):D:= .tup [.tup (s.ra++OG s.run),s.en]
inductive LM (C CM:Addr):Sp
 |mk (g:Gc)(s:Gs)(_:vs= [.ref g.x])(_:lR C CM H g s)(_:↑s.ra+↑(OG s.run)<=1000)(_:∀v H',ic H H'->Is H' (IJ s) v->Q v H')
variable {v:V}{Q:VK}
def sC {K:o0}{xs ys:oj D}{u:V}(O:Is H (.tup xs) v)(U:Is H (.tup ys) u)(hl:↑xs+↑ys<=1000)(k:∀p H',ic H H'->Is H' (.tup (xs++ys)) p->Q p H'):EO K v u H Q:=by
 erw[id O,a,vs,rfl,ha,Z];erw[id U,b,us,rfl,hb,ib];have la:=↑Z;have lb:=↑ib;have hs:=uD;exists a,b,vs,us,1,1,SqT.of ha,SqT.of hb,(),λe=>?_,λ_ e=>?_,λ_ _ p hp=>?_
 ·have:xs= []:=List.length_eq_zero_iff.mp (by rw[e] at la;simpa using la.symm)
  rw[this] at k;exact k _ H (ic.refl _) U
 ·have:ys= []:=List.length_eq_zero_iff.mp (by rw[e] at lb;simpa using lb.symm)
  rw[this,vQ] at k;exact k _ H (ic.refl _) O
 ·have n:=qf hp (.tup (vs++us));exact k _ _ n ⟨p,0,qg,(Z.append ib).mono n.tk⟩
def CB:#[T,2,a.J5,a.J3,["self"],(XH a.qK a.qm)]:=by
 have QN:=#[CN,T];exists 9,T.lU,ZS
 erw[h,g,st,rfl,hG,h];have hs:=uD;erw[id hG,dx,fs,mv,av,rv,ev,e,f,i,j,U,l];exists 3,%[#[qG,#[qr,yL,#[qO,5,pv 0,rfl],qP],%[|#[qp,#[qB,#v[qj,#[qO,5,pv 0,rfl]]]]],qw]|#[qp,#[qI,Jl,#[QA,#[qO,5,pv 0,rfl],T.qt,T.iy,QN],qh]]]
 exists 0,g.x,_,dx,fs,0,e,T.qR,T.qW,f.Qr,1,0;rcases h with⟨O,z,hz,k⟩|⟨mc,r,d,O,Z,k⟩
 ·rw[O] at U;cases(show rv= .non from U)
  rw[hz] at i;obtain⟨rfl,hl⟩:=(show mv= .str z/\↑z<=UX from i)
  refine lP (ud rfl) ⟨0,g.x,_,dx,fs,0,e,T.qR,T.yu,f.Yx,(sml rfl),λt ht=>?_⟩;exact k _ _ (qf ht _) (Is.new ⟨_,0,Ya (),_,0,[1:hl],1⟩ ht)
 ·rw[O] at U;erw[U,rfl,hn,hM];erw[id hM,dm,fm,ac,ru,tv,gv,em,aa,i1,i2,i3,i4,i5,i6];refine lr (uf (λz=>by cases z)) ?_
  exists 0,g.x,_,dx,fs,0,e,T.qR,T.qW,f.Qr,mc.x,dm,fm,1,em,aa.meth _ (),mc,r,1,hM,λv hv=>?_
  rw[Z] at hv;exact .inr (.inl (xy (i:=1) (d:=d) hv (qU (j:=1) rfl) λq hq=>k q hq))
def MJ:#[T,2,a.zG,a.zO,["self"],(LM a.qK a.qm)]:=by
 have yG:=#[CU,T];exists 9,T.mn,Xd
 erw[h,g,st,rfl,hG,hl,k];have hs:=uD;erw[id hG,dx,fs,mv,av,rv,ev,e,f,i,j,Z,l];exists 3,%[#[qC,(1),Xd.nd,#[Q4,#[qr,yL,#[qO,5,pv 0,rfl],qP],#[qB,qd],#[QA,#[qO,5,pv 0,rfl],T.qt,T.iD,yG]]]|#[qp,#[qB,#v[#[qY,zp,#[qO,5,pv 0,rfl],pv 1],#[qO,5,pv 0,rfl]]]]]
 have fin:∀(v:V) (H1:Hp),ic H H1->Is H1 (.tup (OG st.run)) v->SH K (Li 0) "rule_asks" [u_ (.ref g.x),u_ v] H1 λx H2=>Li 1 [u_ (.ref g.x),u_ v] H2 λy H3=>EO K x y H3 λz H4=>SH K (Li 0) "end" [u_ (.ref g.x),u_ v] H4 λu H5=> [z,u].length<=UX/\∀p,H5 p=US->Q (.ref p) (upd H5 p (.tup [z,u])):=λv H1 s1 hv=>by
  exists 0,g.x,_,dx,fs,0,s1 _ _ e,T.qR,T.yS,f.yO,0;refine sC (j.mono s1.tk) hv hl λz H4 s4 i4=>?_;have U:=s1.trans s4
  exists 0,g.x,_,dx,fs,0,U _ _ e,T.qR,T.Q2,f.f_end,(sml rfl),λp hp=>?_;have n:=qf hp (.tup [z,ev]);exact k _ _ (U.trans n) (Is.new ⟨_,0,i4,_,0,l.mono U.tk,1⟩ hp)
 exists 0,g.x,_,dx,fs,0,e,T.qR,T.qW,f.Qr,1,0;cases O:st.run with
 |none=>
  rw[O] at Z fin;cases(show rv= .non from Z)
  refine lP (ud rfl) [(sml rfl):λt ht=>?_];exact fin _ _ (qf ht _) (Is.new (ds:= []) rfl ht)
 |some p=>
  erw[p,mc,r];rw[O] at Z fin;erw[Z,rfl,hn,hM];erw[id hM,dm,fm,ac,ru,tv,gv,em,aa,i1,i2,i3,i4,i5,i6];refine lr (uf (λz=>by cases z)) ?_
  exists 0,g.x,_,dx,fs,0,e,T.qR,T.qW,f.Qr,mc.x,dm,fm,1,em,aa.meth _ (),mc,r,1,hM,λv H1 s1 hv=>?_
  exact fin v H1 s1 hv
structure Gw (g:Gc)(o:om (Mc×Rn))(H H':Hp):Prop where
 kept:∀b ob,H b=u_ ob->b≠g.x->(∀mc r,o=u_ (mc,r)->b≠mc.x/\b≠mc.db/\b≠mc.dg)->H' b=u_ ob
 tk:Tk H H'
inductive xV (C CM CO:Addr):Sp
 |mk (g:Gc)(s:Gs)(v:V)(d:D)(_:vs= [.ref g.x,v])(_:lR C CM H g s)(_:nm g.n=v_)(_:Is H d v)(_:g.o≠g.x)(_:(∃dx fs,H g.o=u_ (.ins CO dx fs)/\fs.lookup ("runner":Str)=US))(_:((s.run=US/\∃z,s.mb= .str z/\∀H' s',Gw g s.run H H'->lR C CM H' g s'->IS H g d {s with ra:= [.tup [.tup [.str "rule",.str z],d]]} s'->Q .non H')∨∃mc r u q,s.run=u_ (mc,r)/\mc.own=g.n/\ya mc.rs/\KZ mc.rs r/\r.th= .tup [.str "asks",.tup [.str u,q]]/\AQ u d=v_/\∀H',Gw g s.run H H'->lR C CM H' g (nZ {s with run:=u_ (mc,mt mc.rs mc.own r d)} (mt mc.rs mc.own r d))->Q .non H'))
def Aaj {g:Gc}{s:Gs}{mc:Mc}{r O:Rn}(h:lR C CM H g s)(Z:s.run=u_ (mc,r))(v:Mv mc H H')(hM:yd CM H' mc O):lR C CM H' g {s with run:=u_ (mc,O)}:=by
 erw[h,dx,fs,mv,av,rv,ev,e,f,i,j,k,l];rw[Z] at k;erw[k,rfl,hn,hm];erw[id hm,dm,fm,aa,ru,tv,gv,em,ac,i1,i2,i3,U,i5,i6];have n1:g.x≠mc.db:=(Ys.ne e i3).symm;have n2:g.x≠mc.dg:=λz=>by rw[<-z,e] at U;cases U
 exact⟨dx,fs,mv,av,_,ev,v.kept _ _ e hn.symm n1 n2,f,i.mono v.tk,j.mono v.tk,[1:hn:hM],l.mono v.tk⟩
def Fr:#[C,10,a.zU,a.zJ,["self","answer"],(xV a.qK a.qm a.qo)]:=by
 have jr:=#[Al,T,C];have Jw:=#[CQ,T];have Yk:=#[Ks,T,C];exists 9,T.iU,kX
 erw[h,U,st,v,d,rfl,hG,hn,hv,am,[ao,ap,ho,aq],h];have hs:=uD;erw[id hG,dx,fs,mv,av,rv,ev,e,f,i,j,hR,l];exists 3,%[|#[qG,#[qr,yL,#[qO,5,pv 0,rfl],qP],%[#[Qc,#[qB,#v[#[qB,#v[#[qB,#v[qj,#[qO,5,pv 0,rfl]]],pv 1]]]]]|#[qZ,#[Qg,pv 0,T.qR,T.lz,jr,#v[pv 1]]]],%[#[qZ,#[Qg,#[qO,5,pv 0,rfl],T.qt,T.iJ,Yk,#v[pv 1]]]|#[qZ,#[QA,pv 0,T.qR,T.lO,Jw]]]]]
 exists 0,U.x,_,dx,fs,0,e,T.qR,T.qW,f.Qr,1,0;rcases h with⟨O,z,hz,k⟩|⟨mc,r,u,q,O,au,ad,ae,af,Z,k⟩
 ·rw[O] at hR;cases(show rv= .non from hR)
  refine lP (ud rfl) ?_;rw[hz] at i;obtain⟨rfl,hl⟩:=(show mv= .str z/\↑z<=UX from i)
  have aw:↑fs<1000:=by have:=f.len;omega
  exists 0,U.x,_,dx,fs,0,e,T.qR,T.yu,f.Yx,(sml rfl),λt1 ag=>?_;have m1:=qf ag (.tup [V.str "rule",V.str z]);have k1:Is (upd H t1 (.tup [V.str "rule",V.str z])) (.tup [.str "rule",.str z]) (.ref t1):=Is.new ⟨_,0,Ya (),_,0,[1:hl],1⟩ ag
  exists 0,(sml rfl),λt2 ah=>?_;have m2:=qf ah (.tup [V.ref t1,v]);have k2:=Is.new (ds:= [.tup [.str "rule",.str z],d]) ⟨_,0,k1,_,0,hv.mono m1.tk,1⟩ ah
  exists (sml rfl),λt3 ak=>?_;have m3:=qf ak (.tup [V.ref t2]);have k3:=Is.new (ds:= [.tup [.tup [.str "rule",.str z],d]]) ⟨_,0,k2,1⟩ ak;have s3:=(m1.trans m2).trans m3
  exists 0,U.x,_,dx,fs,1,s3 _ _ e,T.qR,T.yS,aw;have iz:Is H (.str z) (.str z):=[1:hl];obtain⟨p1,p2⟩:=WE (C:=a.qK) (CM:=a.qm) (g:=U) (s:={st with ra:= [.tup [.tup [.str "rule",.str z],d]]}) (s3 _ _ e) (f.set_rule_asks (u:= .ref t3)) (by show Is _ st.mb _;rw[hz];exact iz.mono s3.tk) k3 (by show wW _ _ _ _ st.run;rw[O];rfl) (l.mono s3.tk)
  erw[id p1,aa,ac,_,_,_,_,e3,f3,_];have al:=s3.tk.trans p2.tk
  exists 0,U.x,aa,ac,1,e3,f3.meth _ (),0,U,_,v,d,1,p1,O,hn,hv.mono al,⟨ao,ap,p2.kept _ _ (s3 _ _ ho) am,aq⟩,λH4 s4 v4 G4 b4=>k H4 s4 [λb ob h n _=>v4.kept b ob (p2.kept b ob (s3 b ob h) n) n:al.trans v4.tk] G4 ⟨b4.mb,b4.ra,b4.lack,b4.rule,λrs h=>?_⟩
  erw[b4.go rs h,mc,c1,c2,c3,c4];have fr:∀b,upd (upd (upd (upd H t1 (.tup [V.str "rule",V.str z])) t2 (.tup [V.ref t1,v])) t3 (.tup [V.ref t2])) U.x (.ins a.qK dx (iB "rule_asks" (.ref t3) fs)) b=US->H b=none:=λb hb=>by
   cases hc:H b with
   |none=>rfl
   |some ob=>
    by_cases c:b=U.x
    ·rw[c,qg] at hb;cases hb
    ·rw[p2.kept b ob (s3 b ob hc) c] at hb;cases hb
  exact⟨mc,fr _ c1,fr _ c2,fr _ c3,c4⟩
 ·rw[O] at hR;erw[hR,rfl,aA,hM];erw[id hM,dm,fm,aB,ru,tv,gv,em,ax,i1,i2,i3,i4,i5,i6];refine lr (uf (λz=>by cases z)) ?_
  have ay:↑mc.own<=100:=by rw[au];have:=WY hn;omega
  exists 0,U.x,_,dx,fs,0,e,T.qR,T.qW,f.Qr,mc.x,dm,fm,1,em,ax.meth _ (),0,mc,r,v,u,q,d,1,hM,ae,af,hv,ad,ay,Z,λH1 v1 M1=>?_
  ·have G1:=Aaj hG O v1 M1;erw[id G1,aa,ac,_,_,_,_,e3,f3,_];have hok:=Eb (own:=mc.own) ad ae (by rw[af];show decide (("asks":Str)="asks")=v_;exact ud rfl) (Ec Z)
   exists 5
   refine⟨0,U.x,aa,ac,1,e3,f3.meth _ (),U,_,mc,0,G1,1,.inr hok.two,λH2 v2 G2=>k H2 [λb ob h n1 n2=>v2.kept b ob (v1.kept b ob h (n2 mc r O).1 (n2 mc r O).2.1 (n2 mc r O).2.2) n1:v1.tk.trans v2.tk] G2⟩
nonrec def gfs (n:Str)(o t:o3):oj (Str×V):= [("name",.str n),("order",.ref o),("made_by",.non),("rule_asks",.ref t),("rule_run",.non),("end",.non)]
def DC (n:Str)(o t:o3):GFl (gfs n o t) (.str n) (.ref o) .non (.ref t) .non .non:=by
 exists 1,1,1,1,1,1,?_,(by show 6<=20;decide)
 intro m hm;simp![GMT,uG,uH,uO] at hm;rcases hm with rfl|rfl|rfl|rfl|rfl<;>rfl
nonrec def s0G:Gs:=⟨.non,[],US,.non⟩
inductive ED (C CM CO:Addr):Sp
 |mk (x dx o:Addr)(n k:Str)(sv:V)(e:D)(_:vs= [.ref x,.str n,sv,.ref o])(_:H x=u_ (.ins C dx []))(_:Is H (.tup [.str k,e]) sv)(_:nm n=v_)(_:o≠x)(_:(∃dx fs,H o=u_ (.ins CO dx fs)/\fs.lookup ("runner":Str)=US))(_:∀H' s',(∀b ob,H b=u_ ob->b≠x->H' b=u_ ob)->Tk H H'->lR C CM H' ⟨x,o,n⟩ s'->(k="made"->s'={s0G with mb:=e})->(k≠"made"->IS H ⟨x,o,n⟩ e s0G s')->Q .non H')
def NX {x:o3}{fs:oj (Str×V)}{P:Hp->Prop}(e:H x=u_ (.ins C dx fs))(h:∀H1,H1 x=u_ (.ins C dx fs')->(∀b ob,H b=u_ ob->b≠x->H1 b=u_ ob)->Tk H H1->P H1):P (upd H x (.ins C dx fs')):=h _ qg (λb ob h n=>by rwa[qk n]) (Tk.updI e)
def Ia:#[C,10,a.j9,a.zQ,["self","name","source","order"],(ED a.qK a.qm a.qo)]:=by
 have jr:=#[Al,T,C];exists 9,T.ml,kZ
 erw[h,x,dx,o,n,k,sv,d,rfl,hx,aa,hn,nox,[ac,ad,ho,ae],q];have hs:=uD;exists 3,%[#[Qc,pv 1],#[Qc,pv 3],#[Qc,qP],#[Qc,#[qB,qd]],#[Qc,qP],#[Qc,qP]|#[qG,#[qr,Qq,#[qI,qF,pv 2,qh],qj],%[|#[Qc,#[qI,qF,pv 2,qh]]],%[|#[qZ,#[Qg,pv 0,T.qR,T.lz,jr,#v[#[qI,qF,pv 2,qh]]]]]]]
 exists 0,0,x,_,dx,0,hx,T.qR,T.Yc,()
 refine NX (P:=mQ _ _ _ _) hx λH1 x1 k1 t1=>?_
 exists 5
 refine⟨0,0,x,_,dx,0,x1,T.qR,T.XD,by show 1<1000;decide,?_⟩
 refine NX (P:=mQ _ _ _ _) x1 λH2 x2 k2 t2=>?_
 exists 5
 refine⟨0,x,_,dx,0,x2,T.qR,T.yu,by show 2<1000;decide,?_⟩
 refine NX (P:=mQ _ _ _ _) x2 λH3 x3 k3 t3=>?_
 exists sml rfl,λt ht=>?_;have nxt:=(ql x3 ht).symm;have s4:=qf ht (.tup ([]:oj V))
 exists 5
 refine⟨0,x,_,dx,0,s4 _ _ x3,T.qR,T.yS,by show 3<1000;decide,?_⟩
 refine NX (P:=mQ _ _ _ _) (s4 _ _ x3) λH5 x5 k5 t5=>?_
 exists 5
 refine⟨0,x,_,dx,0,x5,T.qR,T.qW,by show 4<1000;decide,?_⟩
 refine NX (P:=mQ _ _ _ _) x5 λH6 x6 k6 t6=>?_
 exists 5
 refine⟨0,x,_,dx,0,x6,T.qR,T.Q2,by show 5<1000;decide,?_⟩
 refine NX (P:=λH=>_) x6 λZ O k7 t7=>?_;have kp:∀b ob,H b=u_ ob->b≠x->Z b=u_ ob:=λb ob h nb=>k7 b ob (k6 b ob (k5 b ob (s4 b ob (k3 b ob (k2 b ob (k1 b ob h nb) nb) nb)) nb) nb) nb;have U:=(((((t1.trans t2).trans t3).trans s4.tk).trans t5).trans t6).trans t7;have O:Z x=u_ (.ins a.qK dx (gfs n o t)):=O;have eT:Z t=u_ (.tup ([]:oj V)):=k7 _ _ (k6 _ _ (k5 _ _ qg nxt) nxt) nxt;have i0:Is Z (.tup []) (.ref t):=⟨t,[],1,eT,1⟩;have G0:lR a.qK a.qm Z ⟨x,o,n⟩ s0G:=⟨dx,_,_,_,_,_,O,DC n o t,1,i0,1,1⟩;have af:=aa.mono U;erw[af,p,ws,rfl,hp,w1,r1,rfl,[rfl,ag],w2,r2,rfl,h2,h3];cases(show r2= [] from h3)
 exists 0,p,_,_,0,1,SqT.of hp,1,1,0;by_cases ck:k="made"
 ·refine lP (ud (by rw[ck])) ⟨0,p,_,_,0,1,SqT.of hp,1,0,x,_,dx,0,O,T.qR,T.yu,(by show 6<1000;decide),?_⟩
  erw[WE (C:=a.qK) (CM:=a.qm) (g:=[x:o:n]) (s:={s0G with mb:=d}) O ((DC n o t).set_made_by (u:=w2)) h2 i0 rfl rfl,p1,p2]
  exact q _ _ (λb ob h nb=>p2.kept b ob (kp b ob h nb) nb) (U.trans p2.tk) p1 (λ_=>rfl) λz=>A8 ck z
 ·refine lr (uf (λz=>ck (V.str.inj z))) ?_
  exists 0,x,dx,0,O,(DC n o t).meth _ (),0,p,_,_,0,1,SqT.of hp,1,[x:o:n],s0G,w2,d,1,G0,1,hn,h2,⟨ac,ad,kp _ _ ho nox,ae⟩,λH8 s8 v8 G8 b8=>q H8 s8 (λb ob h nb=>v8.kept b ob (kp b ob h nb) nb) (U.trans v8.tk) G8 (λz=>A8 z ck) λ_=>⟨b8.mb,b8.ra,b8.lack,b8.rule,λrs h=>?_⟩
  erw[b8.go rs h,mc,c1,c2,c3,c4];have fr:∀b,Z b=US->H b=none:=λb hb=>by
   cases hc:H b with
   |none=>rfl
   |some ob=>
    by_cases c:b=x
    ·rw[c,O] at hb;cases hb
    ·rw[kp b ob hc c] at hb;cases hb
  exact⟨mc,fr _ c1,fr _ c2,fr _ c3,c4⟩
nonrec def YY:D->D
 | .non=> .tup [.str "lack"]
 | .tup [.str k,e]=>if k="leaf" then .tup [.str "value",e] else .non
 |_=> .non
nonrec def Yo:D->D
 | .tup [.str k,e]=>if k="said" then .tup [.str "value",e] else .tup [.str k,e]
 |d=>d
inductive LC:Sp
 |mk (v:V)(d:D)(_:vs= [v])(_:Is H d v)(_:(d= .non∨∃k e,d= .tup [.str k,e]))(_:∀u H',ic H H'->Is H' (YY d) u->Q u H')
inductive EK:Sp
 |mk (v:V)(k:Str)(e:D)(_:vs= [v])(_:Is H (.tup [.str k,e]) v)(_:∀u H',ic H H'->Is H' (Yo (.tup [.str k,e])) u->Q u H')
def Ij:#[T,1,a.ZB,a.wb,["end"],EK]:=by
 exists 9,T.mG,nE
 erw[h,v,k,e,rfl,U,q];have hs:=uD;have O:=U;erw[U,p,ws,rfl,Z,w1,r1,rfl,[rfl,aa],w2,r2,rfl,h2,h3];cases(show r2= [] from h3)
 exists 3,%[|#[qp,#[Q4,#[qr,Qq,#[qI,qF,pv 0,qh],qj],#[qB,#v[qj,#[qI,qF,pv 0,qh]]],pv 0]]]
 exists 0,p,_,_,0,1,SqT.of Z,1,1,0;by_cases c:k="said"
 ·refine lP (ud (by rw[c])) ⟨0,p,_,_,0,1,SqT.of Z,1,(sml rfl),λt ht=>?_⟩
  refine q _ _ (qf ht _) ?_;unfold Yo
  try dsimp only
  rw[A6 c];exact Is.new ⟨_,0,Ya (),_,0,h2,1⟩ ht
 ·refine lr (uf (λz=>c (V.str.inj z))) [0:q _ H (ic.refl _) ?_];unfold Yo
  try dsimp only
  rw[A4 c];exact O
def CL:#[T,1,a.jQ,a.jO,["source"],LC]:=by
 exists 9,T.iI,zh
 erw[h,v,d,rfl,U,hd,q];have hs:=uD;exists 3,%[#[qG,#[qr,yL,pv 0,qP],%[|#[qp,#[qB,#v[qj]]]],qw]|#[qp,#[Q4,#[qr,Qq,#[qI,qF,pv 0,qh],qj],#[qB,#v[qj,#[qI,qF,pv 0,qh]]],qP]]]
 exists 0,1,0;rcases hd with rfl|⟨k,e,rfl⟩
 ·cases(show v= .non from U)
  refine lP (ud rfl) [(sml rfl):λt O=>?_];exact q _ _ (qf O _) (Is.new ⟨_,0,Ya (),1⟩ O)
 ·erw[U,p,ws,rfl,Z,w1,r1,rfl,[rfl,aa],w2,r2,rfl,h2,h3];cases(show r2= [] from h3)
  refine lr (uf (λz=>by cases z)) ?_
  exists 0,p,_,_,0,1,SqT.of Z,1,1,0;by_cases c:k="leaf"
  ·refine lP (ud (by rw[c])) ⟨0,p,_,_,0,1,SqT.of Z,1,(sml rfl),λt O=>?_⟩
   refine q _ _ (qf O _) ?_;unfold YY
   try dsimp only
   rw[A6 c];exact Is.new ⟨_,0,Ya (),_,0,h2,1⟩ O
  ·refine lr (uf (λz=>c (V.str.inj z))) (q _ H (ic.refl _) ?_);unfold YY
   try dsimp only
   rw[A4 c];exact(rfl:V.non=V.non)
end
structure Sy where
 G:Type
 fin:G->Bool
 want:G->om Str
 own:G->G
 tk:G->om D->G
 stuck:G->Str->G
 said:G->om D
 g0:Str->om G
 once:Str->om D
 lft:G->Nat
 M:Nat
 ns:oj Str
structure Sy.Ok (Y:Sy):Prop where
 fs:∀g m,Y.fin (Y.stuck g m)=v_
 ss:∀g m,Y.said (Y.stuck g m)=US
 sf:∀g v,Y.said g=u_ v->Y.fin g=v_
 lo:∀g,Y.fin g=UT->Y.want g=US->Y.lft (Y.own g)<Y.lft g
 lt:∀g m a,Y.fin g=UT->Y.want g=u_ m->Y.lft (Y.tk g a)<Y.lft g
 lk:∀g m,Y.fin g=UT->Y.lft (Y.stuck g m)<Y.lft g
 l0:∀m g,Y.g0 m=u_ g->Y.lft g<=Y.M
 gn:∀m g,Y.g0 m=u_ g->m∈Y.ns
namespace Sy
variable {Y:Sy}
noncomputable abbrev Orc:=Str->om (om D)
nonrec def step (Y:Sy)(f:Orc)(g:Y.G):Y.G:=if Y.fin g=v_ then g else match Y.want g with
 |none=>Y.own g
 |some m=>match f m with
  |some a=>Y.tk g a
  |none=>Y.stuck g m
nonrec def it (Y:Sy)(f:Orc):Nat->Y.G->Y.G
 |0,g=>g
 |k+1,g=>it Y f k (step Y f g)
def Zl {f:Orc}{g:Y.G}(h:Y.fin g=v_):step Y f g=g:=by unfold step;rw[A6 h]
def wj {f:Orc}{g:Y.G}(h:Y.fin g=v_):∀k,it Y f k g=g
 |0=>rfl
 |k+1=>by show it Y f k (step Y f g)=g;rw[Zl h];exact wj h k
def Wz {f:Orc}:∀(k j:Nat) (g:Y.G),it Y f (k+j) g=it Y f j (it Y f k g)
 |0,j,g=>by rw[Hu];rfl
 |k+1,j,g=>by
  rw[Nat.add_right_comm];show it Y f (k+j) (step Y f g)=_;rw[Wz k j]
  rfl
def it_snoc {f:Orc}(k:Nat)(g:Y.G):it Y f (k+1) g=step Y f (it Y f k g):=Wz k 1 g
def sS (h:Y.Ok){f:Orc}{g:Y.G}(O:Y.fin g=UT):Y.lft (step Y f g)<Y.lft g:=by
 unfold step;rw[O,A4 uc];cases U:Y.want g with
 |none=>exact h.lo g O U
 |some m=>
  show Y.lft (match f m with|some a=>Y.tk g a|none=>Y.stuck g m)<_
  cases f m with
  |some a=>exact h.lt g m a O U
  |none=>exact h.lk g m O
def it_end (h:Y.Ok){f:Orc}:∀(k:Nat) (g:Y.G),Y.lft g<=k->Y.fin (it Y f k g)=v_
 |0,g,hl=>by
  show Y.fin g=v_;cases O:Y.fin g with
  |true=>rfl
  |false=>have:=sS (f:=f) h O;omega
 |k+1,g,hl=>by
  show Y.fin (it Y f k (step Y f g))=v_;cases O:Y.fin g with
  |true=>rw[Zl O,wj O];exact O
  |false=>exact it_end h k _ (by have:=sS (f:=f) h O;omega)
variable {j:Nat}
def it_one {f:Orc}{g:Y.G}{k:Nat}(O:Y.fin (it Y f k g)=v_)(U:Y.fin (it Y f j g)=v_):it Y f k g=it Y f j g:=by
 rcases tZ k j with h|h
 ·erw[GB h,d,rfl];rw[Wz,wj O]
 ·erw[GB h,d,rfl];rw[Wz,wj U]
def p8 (h:Y.Ok){f f':Orc}(hm:∀m a,f m=u_ a->f' m=u_ a):∀(k:Nat) (g:Y.G),it Y f' k g=it Y f k g∨((∀j,it Y f j (it Y f k g)=it Y f k g)/\Y.said (it Y f k g)=US)
 |0,g=> .inl rfl
 |k+1,g=>by
  show it Y f' k (step Y f' g)=it Y f k (step Y f g)∨_;by_cases c:step Y f' g=step Y f g
  ·rw[c];exact p8 h hm k _
  ·right;have U:Y.fin g=false:=by
    cases U:Y.fin g with
    |false=>rfl
    |true=>exact A8 (by rw[Zl U,Zl U]) c
   have e:∃m,step Y f g=Y.stuck g m:=by
    unfold step at c⊢;rw[U,A4 uc] at c⊢;rw[A4 uc] at c;cases Z:Y.want g with
    |none=>rw[Z] at c;exact A8 rfl c
    |some m=>
     rw[Z] at c;simp only at c⊢;cases O:f m with
     |none=>exact[m:1]
     |some a=>rw[O,hm m a O] at c;exact A8 rfl c
   erw[e,m,e];have e2:it Y f (k+1) g=Y.stuck g m:=by
    show it Y f k (step Y f g)=_;rw[e];exact wj (h.fs g m) k
   rw[e2];exact[wj (h.fs g m):h.ss g m]
def p7 (h:Y.Ok){f f':Orc}(hm:∀m a,f m=u_ a->f' m=u_ a){k:Nat}{g:Y.G}{v:D}(O:Y.said (it Y f k g)=u_ v):it Y f' k g=it Y f k g:=by
 rcases p8 h hm k g with e|⟨_,e⟩
 ·exact e
 ·rw[O] at e;cases e
nonrec def Fh (Y:Sy):Nat->Orc
 |0,m=>match Y.g0 m with
  |none=>u_ (Y.once m)
  |some _=>US
 |h+1,m=>match Y.g0 m with
  |none=>u_ (Y.once m)
  |some g=>(Y.said (it Y (Fh Y h) Y.M g)).map u_
variable {m:Str}
def Zw (h:Y.g0 m=US):∀k,Fh Y k m=u_ (Y.once m)
 |0=>by simp![Fh,h]
 |k+1=>by simp![Fh,h]
def Fh_run {g:Y.G}(h:Y.g0 m=u_ g)(k:Nat):Fh Y (k+1) m=(Y.said (it Y (Fh Y k) Y.M g)).map some:=by simp![Fh,h]
def kL {g:Y.G}(h:Y.g0 m=u_ g):Fh Y 0 m=none:=by simp![Fh,h]
def Ef (h:Y.Ok):∀(k:Nat) (m:Str) (a:om D),Fh Y k m=u_ a->Fh Y (k+1) m=u_ a
 |0,m,a,e=>by
  cases O:Y.g0 m with
  |none=>rw[Zw O] at e⊢;exact e
  |some g=>rw[kL O] at e;cases e
 |k+1,m,a,e=>by
  cases O:Y.g0 m with
  |none=>rw[Zw O] at e⊢;exact e
  |some g=>
   rw[Fh_run O] at e⊢;cases U:Y.said (it Y (Fh Y k) Y.M g) with
   |none=>rw[U] at e;cases e
   |some v=>
    rw[p7 h (Ef h k) U];exact e
def NS (h:Y.Ok){k:Nat}(O:k<=j){a:om D}(e:Fh Y k m=u_ a):Fh Y j m=u_ a:=by
 erw[GB O,d,rfl]
 induction d with
 |zero=>exact e
 |succ d U=>exact Ef h _ _ _ (U ())
open Classical in
nonrec def F (Y:Sy):Orc:=λm=>if h:∃a k,Fh Y k m=u_ a then u_ (choose h) else US
def F_iff (h:Y.Ok){a:om D}:F Y m=u_ a↔∃k,Fh Y k m=u_ a:=by
 unfold F;constructor
 ·intro e;by_cases c:∃a k,Fh Y k m=u_ a
  ·rw[dif_pos c] at e;have:=Fs c;rwa[uL e] at this
  ·rw[dif_neg c] at e;cases e
 ·rintro⟨k,e⟩;have c:∃a k,Fh Y k m=u_ a:=[a:k:e];rw[dif_pos c];erw[Fs c,j,U];have Z:=NS h (Nat.le_max_left k j) e;have O:=NS h (Nat.le_max_right k j) U;rw[Z] at O;exact O.symm
def NY (h:Y.Ok){k:Nat}{a:om D}(e:Fh Y k m=u_ a):F Y m=u_ a:=(F_iff h).mpr [k:e]
def F_once (h:Y.Ok)(O:Y.g0 m=US):F Y m=u_ (Y.once m):=NY h (Zw O 0)
def BN (h:Y.Ok)(g:Y.G):∃k,∀j,k<=j->step Y (Fh Y j) g=step Y (F Y) g:=by
 unfold step;by_cases U:Y.fin g=v_
 ·exact⟨(0),λj _=>by rw[A6 U,A6 U]⟩
 ·cases hw:Y.want g with
  |none=>exact[(0):λj _=>rfl]
  |some m=>
   cases O:F Y m with
   |some a=>
    erw[(F_iff h).mp O,k,e];exact⟨k,λj Z=>by simp![NS h Z e,O]⟩
   |none=>
    exists (0),λj _=>?_;have:Fh Y j m=none:=by
     cases e:Fh Y j m with
     |none=>rfl
     |some a=>rw[NY h e] at O;cases O
    simp![this,O]
def Dp (h:Y.Ok):∀(n:Nat) (g:Y.G),∃k,∀j,k<=j->it Y (Fh Y j) n g=it Y (F Y) n g
 |0,g=>[(0):λ_ _=>rfl]
 |n+1,g=>by
  erw[BN h g,k1,h1];erw[Dp h n (step Y (F Y) g),k2,h2];exists max k1 k2,λj O=>?_;show it Y (Fh Y j) n (step Y (Fh Y j) g)=it Y (F Y) n (step Y (F Y) g);rw[h1 j (),h2 j ()]
def F_run (h:Y.Ok){g:Y.G}(U:Y.g0 m=u_ g):F Y m=(Y.said (it Y (F Y) Y.M g)).map some:=by
 cases Z:Y.said (it Y (F Y) Y.M g) with
 |some v=>
  erw[Dp h Y.M g,k,e];refine NY h (k:=k+1) ?_;rw[Fh_run U,e k (uj _),Z]
  rfl
 |none=>
  show F Y m=US;cases e:F Y m with
  |none=>rfl
  |some a=>
   erw[(F_iff h).mp e,k,e];cases k with
   |zero=>rw[kL U] at e;cases e
   |succ k=>
    rw[Fh_run U] at e;cases O:Y.said (it Y (Fh Y k) Y.M g) with
    |none=>rw[O] at e;cases e
    |some v=>
     rw[<-p7 h (λm a q=>NY h q) O,Z] at O;cases O
nonrec def Wt (Y:Sy)(n m:Str):Prop:=∃g k,Y.g0 n=u_ g/\Y.fin (it Y (F Y) k g)=UT/\Y.want (it Y (F Y) k g)=u_ m
def BC (h:Y.Ok){n:Str}(w:Wt Y n m){k:Nat}{a:om D}(e:Fh Y k n=u_ a):∃j b,j<k/\Fh Y j m=u_ b:=by
 erw[w,g,i,hg,hf,hw];cases k with
 |zero=>rw[kL hg] at e;cases e
 |succ k=>
  exists k;rw[Fh_run hg] at e;cases U:Y.said (it Y (Fh Y k) Y.M g) with
  |none=>rw[U] at e;cases e
  |some v=>
   have O:=h.sf _ _ U;have eM:=p7 h (f':=F Y) (λm a q=>NY h q) U;rcases p8 h (f:=Fh Y k) (f':=F Y) (λm a q=>NY h q) i g with ei|⟨ei,es⟩
   ·rw[ei] at hf hw;cases hm:Fh Y k m with
    |some b=>exact[b:HZ k:1]
    |none=>
     have e1:it Y (Fh Y k) (i+1) g=Y.stuck (it Y (Fh Y k) i g) m:=by
      rw[it_snoc];unfold step;rw[hf,A4 uc,hw];simp![hm]
     have e2:Y.fin (it Y (Fh Y k) (i+1) g)=true:=by rw[e1];exact h.fs _ _
     rw[<-it_one e2 O,e1,h.ss] at U;cases U
   ·have Z:it Y (Fh Y k) (i+Y.M) g=it Y (Fh Y k) i g:=by rw[Wz];exact ei _
    have e3:it Y (Fh Y k) (Y.M+i) g=it Y (Fh Y k) Y.M g:=by rw[Wz];exact wj O i
    rw[<-e3,Nat.add_comm,Z,es] at U;cases U
inductive Wts (Y:Sy):Str->Str->Prop
 |one {n m:Str}:Wt Y n m->Wts Y n m
 |more {n m l:Str}:Wts Y n m->Wt Y m l->Wts Y n l
def Ek (h:Y.Ok){n:Str}(w:Wts Y n m):∀{k:Nat}{a:om D},Fh Y k n=u_ a->∃j b,j<k/\Fh Y j m=u_ b:=by
 induction w with
 |one w=>exact λe=>BC h w e
 |more _ w O=>
  intro k a e;erw[O e,j,b,hj,U];erw[BC h w U,i,c,hi,Z];exact⟨i,c,(),Z⟩
def wx (h:Y.Ok){n:Str}(w:Wts Y n n):F Y n=none:=by
 have O:∀k a,Fh Y k n≠u_ a:=by
  intro k
  induction k using Nat.strongRecOn with
  |_ k U=>
   intro a e;erw[Ek h w e,j,b,Z,e1];exact U j Z b e1
 cases e:F Y n with
 |none=>rfl
 |some a=>
  erw[(F_iff h).mp e,k,e];exact A8 e (O k a)
structure Ss (Y:Sy) where
 stk:oj (Str×Y.G)
 don:oj (Str×Y.G)
nonrec def jZ (l:oj (Str×Y.G))(m:Str):om Y.G:=(l.find? λp=>decide (p.1=m)).map (·.2)
nonrec def yet (S:Ss Y)(m:Str):om (om (om D)):=if m∈S.stk.map (·.1) then u_ US else match Y.g0 m with
 |none=>u_ (u_ (Y.once m))
 |some _=>(jZ S.don m).map λg=>(Y.said g).map u_
nonrec def nxt (S:Ss Y):Ss Y:=match S.stk with
 | []=>S
 |(n,g)::r=>if Y.fin g=v_ then[r:S.don++ [(n,g)]] else match Y.want g with
  |none=>[(n,Y.own g)::r:S.don]
  |some m=>match yet S m with
   |some (u_ a)=>[(n,Y.tk g a)::r:S.don]
   |some US=>[(n,Y.stuck g m)::r:S.don]
   |none=>match Y.g0 m with
    |some g'=>[(m,g')::(n,g)::r:S.don]
    |none=>S
nonrec def nx (S:Ss Y):Nat->Ss Y
 |0=>S
 |k+1=>nxt (nx S k)
nonrec def rest (S:Ss Y):oj Str:=Y.ns.filter λm=>decide (m∉S.stk.map (·.1))&&decide (m∉S.don.map (·.1))
nonrec def lfts:oj (Str×Y.G)->Nat
 | []=>0
 |(_,g)::r=>Y.lft g+1+lfts r
nonrec def mu (S:Ss Y):Nat:=lfts S.stk+(Y.M+2)*↑(rest S)
variable {S:Ss Y}
def XC (h:yet S m=US):m∉S.stk.map (·.1)/\(∃g,Y.g0 m=u_ g)/\m∉S.don.map (·.1):=by
 unfold yet at h;by_cases c:m∈S.stk.map (·.1)
 ·rw[A6 c] at h;cases h
 ·rw[A4 c] at h;cases O:Y.g0 m with
  |none=>rw[O] at h;cases h
  |some g=>
   rw[O] at h;simp![HP] at h;exists c,[g:1],λhm=>?_;erw[Ae.mp hm,p,U,rfl];have h3:(S.don.find? λq=>decide (q.1=p.1))=none:=by simpa [jZ] using h
   rw[Ue] at h3;exact h3 p U (by simp)
variable {l:oj Str}
def kf {p q:Str->Bool}(Z:m∈l)(hp:p m=v_)(hq:q m=UT)(O:∀x,q x=v_->p x=v_):↑(l.filter q)<↑(l.filter p):=by
 induction l with
 |nil=>cases Z
 |cons x r U=>
  have le:↑(r.filter q)<=↑(r.filter p):=by
   clear U Z
   induction r with
   |nil=>exact uj _
   |cons y r U=>
    rw[vt,vt];cases h1:q y with
    |true=>rw[O y h1,A6 rfl,A6 rfl];simp![um];omega
    |false=>
     rw[A4 uc];split
     ·simp![um];omega
     ·exact U
  rw[vt,vt];rcases Aa.mp Z with rfl|hm
  ·rw[hp,hq,A6 rfl,A4 uc,um];omega
  ·have:=U hm;cases h1:q x with
   |true=>rw[O x h1,A6 rfl,A6 rfl];simp![um];omega
   |false=>
    rw[A4 uc];split
    ·simp![um];omega
    ·exact this
def nxt_mu (h:Y.Ok)(hs:S.stk≠ []):mu (nxt S)<mu S:=by
 erw[S,stk,don];cases stk with
 |nil=>exact A8 rfl hs
 |cons p r=>
  erw[p,n,g];have same:∀g',Y.lft g'<Y.lft g->mu (⟨(n,g')::r,don⟩:Ss Y)<mu ⟨(n,g)::r,don⟩:=by
   intro g' hl;show Y.lft g'+1+lfts r+(Y.M+2)*_<Y.lft g+1+lfts r+(Y.M+2)*_;have e:rest (⟨(n,g')::r,don⟩:Ss Y)=rest ⟨(n,g)::r,don⟩:=rfl;rw[e];omega
  unfold nxt;simp only;cases O:Y.fin g with
  |true=>
   rw[A6 rfl];show lfts r+(Y.M+2)*_<Y.lft g+1+lfts r+(Y.M+2)*_;have e:rest (⟨r,don++ [(n,g)]⟩:Ss Y)=rest ⟨(n,g)::r,don⟩:=by
    unfold rest
    congr 1
    funext x
    simp![uz,uB,U3,List.mem_append,uG,uH,uO,<-Bool.decide_and];rw[uX];constructor
    ·rintro⟨a,b⟩;exact[λz=>z.elim (λz=>b (.inr z)) a:λz=>b (.inl z)]
    ·rintro⟨a,b⟩;exact[λz=>a (.inr z):λz=>z.elim b λz=>a (.inl z)]
   rw[e];omega
  |false=>
   rw[A4 uc];cases hw:Y.want g with
   |none=>exact same _ (h.lo g O hw)
   |some m=>
    simp only;cases hy:yet ([(n,g)::r:don]:Ss Y) m with
    |some o=>
     cases o with
     |some a=>exact same _ (h.lt g m a O hw)
     |none=>exact same _ (h.lk g m O)
    |none=>
     simp only;erw[XC hy,h1,[g',U],h2];rw[U];show Y.lft g'+1+(Y.lft g+1+lfts r)+(Y.M+2)*↑(rest ([(m,g')::(n,g)::r:don]:Ss Y))<Y.lft g+1+lfts r+(Y.M+2)*↑(rest ([(n,g)::r:don]:Ss Y));have e:↑(rest (⟨(m,g')::(n,g)::r,don⟩:Ss Y))<↑(rest (⟨(n,g)::r,don⟩:Ss Y)):=by
      refine kf (m:=m) (h.gn m g' U) ?_ ?_ ?_
      ·simp![uC,uZ];exact[h1:h2]
      ·simp
      ·intro x Z;simp![uC,uZ] at Z⊢;exact[λz=>Z.1 (uh _ z):Z.2]
     have l0:=h.l0 m g' U;have e2:=Nat.mul_le_mul_left (Y.M+2) (Nat.succ_le_of_lt e);rw[Nat.mul_succ] at e2;omega
nonrec def Chn (Y:Sy):oj (Str×Y.G)->Prop
 | []=>True
 |(n,g)::r=>(∃s k,Y.g0 n=u_ s/\g=it Y (F Y) k s)/\Chn Y r/\∀p r',r=p::r'->Y.fin p.2=UT/\Y.want p.2=u_ n
structure SOk (n0:Str)(S:Ss Y):Prop where
 chn:Chn Y S.stk
 nd:(S.stk.map (·.1)++S.don.map (·.1)).Nodup
 don:∀p∈S.don,∃s,Y.g0 p.1=u_ s/\p.2=it Y (F Y) Y.M s
 bot:(S.stk.map (·.1)).getLast? =u_ n0∨S.stk= []/\(S.don.map (·.1)).getLast? =u_ n0
def NA {n:Str}{g:Y.G}:∀{r:oj (Str×Y.G)}{m:Str},Chn Y ((n,g)::r)->m∈r.map (·.1)->Wts Y m n:=by
 intro r
 induction r generalizing n g with
 |nil=>intro m _ h;cases h
 |cons p r ih=>
  intro m hc hm;erw[p,O,g'];erw[hc,_,U,c3];erw[c3 (O,g') r rfl,f1,w1];erw[U.1,s,k,hs,Z];have w:Wt Y O n:=⟨s,k,hs,by rwa[<-Z],by rwa[<-Z]⟩
  rcases Aa.mp hm with rfl|hm
  ·exact .one w
  ·exact .more (ih U hm) w
def WI {l:oj (Str×Y.G)}{g:Y.G}(h:jZ l m=u_ g):(m,g)∈l:=by
 unfold jZ at h;cases e:l.find? λp=>decide (p.1=m) with
 |none=>rw[e] at h;cases h
 |some p=>
  rw[e] at h;cases uL h;have:=GR e;have hm:p.1=m:=uu this;rw[<-hm];exact U0 e
def Pa (h:Y.Ok){n0:Str}(hs:SOk n0 S):SOk n0 (nxt S):=by
 erw[S,stk,don];cases stk with
 |nil=>exact hs
 |cons p r=>
  erw[p,n,g];erw[hs,chn,nd,O,bot];erw[chn,[s,k,U,hk],c2,c3];have on:∀g',Y.fin g=UT->step Y (F Y) g=g'->SOk n0 (⟨(n,g')::r,don⟩:Ss Y):=by
   intro g' hf e;exists [⟨s,k+1,U,?_⟩:c2:c3],nd,O,.inl ?_
   ·rw[it_snoc,<-hk,e]
   ·rcases bot with b|⟨b,_⟩
    ·exact b
    ·cases b
  unfold nxt;simp only;cases hf:Y.fin g with
  |true=>
   rw[A6 rfl];exists c2,?_,λq hq=>?_,?_
   ·show(r.map (·.1)++(don++ [(n,g)]).map (·.1)).Nodup;have ac:(n::(r.map (·.1)++don.map (·.1))).Nodup:=nd;rw[uz,<-UJ];show((r.map (·.1)++don.map (·.1))++ [n]).Nodup;exact(T1 (l₁:= [n]) (l₂:=r.map (·.1)++don.map (·.1))).nodup_iff.mp ac
   ·rcases Ac.mp hq with hq|hq
    ·exact O q hq
    ·cases Ab.mp hq;exists s,U;show g=_;rw[hk];refine it_one (by rwa[<-hk]) (it_end h _ _ (h.l0 n s U))
   ·rcases bot with b|⟨b,_⟩
    ·cases r with
     |nil=>
      right;exists 1;have hn:n=n0:=by simpa using b
      show((don++ [(n,g)]).map (·.1)).getLast? =u_ n0;rw[uz,hn];simp
     |cons q r=>
      left
      simpa [UG] using b
    ·cases b
  |false=>
   rw[A4 uc];have aa:step Y (F Y) g=match Y.want g with
     |none=>Y.own g
     |some m=>match F Y m with
      |some a=>Y.tk g a
      |none=>Y.stuck g m:=by
    unfold step;rw[hf,A4 uc]
   cases hw:Y.want g with
   |none=>exact on _ hf (by rw[aa,hw])
   |some m=>
    rw[hw] at aa;simp only at aa⊢;cases Z:yet ([(n,g)::r:don]:Ss Y) m with
    |some o=>
     have hF:F Y m=o:=by
      unfold yet at Z;by_cases c:m∈((n,g)::r).map (·.1)
      ·rw[A6 c] at Z;cases Z;have w:Wt Y n m:=⟨s,k,U,by rwa[<-hk],by rwa[<-hk]⟩
       rcases Aa.mp c with rfl|hm
       ·exact wx h (.one w)
       ·exact wx h (.more (NA (g:=g) [⟨s,k,U,hk⟩:c2:c3] hm) w)
      ·rw[A4 c] at Z;cases hg:Y.g0 m with
       |none=>
        rw[hg] at Z;cases Z;exact F_once h hg
       |some gm=>
        rw[hg] at Z;simp only at Z;cases hd:jZ don m with
        |none=>rw[hd] at Z;cases Z
        |some gd=>
         rw[hd] at Z;cases Z;erw[O _ (WI hd),s',e1,e2];rw[hg] at e1;cases e1;have e3:gd=it Y (F Y) Y.M gm:=e2;rw[F_run h hg,e3]
     cases o with
     |some a=>exact on _ hf (by rw[aa,hF])
     |none=>exact on _ hf (by rw[aa,hF])
    |none=>
     simp only;erw[XC Z,h1,[g',hg],h2];rw[hg];exists [⟨g',(0),hg,1⟩:[⟨s,k,U,hk⟩:c2:c3]:λq r' e=>?_],?_,O,.inl ?_
     ·cases e;exact[hf:hw]
     ·show(m::(((n,g)::r).map (·.1)++don.map (·.1))).Nodup;rw[Uj];exists λz=>?_,nd;rcases Ac.mp z with z|z
      ·exact h1 z
      ·exact h2 z
     ·rcases bot with b|⟨b,_⟩
      ·show(m::n::r.map (·.1)).getLast? =u_ n0;rwa[UG]
      ·cases b
def nx_ok (h:Y.Ok){n0:Str}{S:Ss Y}(O:SOk n0 S):∀k,SOk n0 (nx S k)
 |0=>O
 |k+1=>Pa h (nx_ok h O k)
def pR {S:Ss Y}{k:Nat}(h:(nx S k).stk= []):∀j,nx S (k+j)=nx S k
 |0=>rfl
 |j+1=>by
  show nxt (nx S (k+j))=_;rw[pR h j];unfold nxt;rw[h]
def nx_one {k:Nat}(O:(nx S k).stk= [])(U:(nx S j).stk= []):nx S k=nx S j:=by
 rcases tZ k j with h|h
 ·erw[GB h,d,rfl];exact(pR O d).symm
 ·erw[GB h,d,rfl];exact pR U d
nonrec def S0 (Y:Sy)(n:Str):Ss Y:=match Y.g0 n with
 |none=>[[]:[]]
 |some g=>[[(n,g)]:[]]
def S0_ok {n:Str}{g:Y.G}(O:Y.g0 n=u_ g):SOk n (S0 Y n):=by
 unfold S0;rw[O];exact⟨⟨⟨g,(0),O,1⟩,trivial,λ_ _ e=>by cases e⟩,by simp,λ_ h=>(by cases h),.inl rfl⟩
end Sy
end K35
namespace K35
open PySem L2 PyProof.Rows
nonrec def ThS (d:D):Prop:=(∃z,d=flt z)∨(∃e,d= .tup [.str "said",e]/\isT e=v_)∨∃(u z:Str),d= .tup [.str "asks",.tup [.str u,.str z]]/\isT (.str z)=v_/\(u="names"∨(u="thing"∨u="has")/\nm z=v_)
def Dt {d:D}(h:mx d=v_):∃z,d= .str z/\nm z=true:=by
 cases d with
 |str z=>exact[z:1:h]
 |_=>cases h
variable {own:Str}{n:Nat}{r:Rw}{e:D}
def LZ {B:Str->D}{p:Int}(hr:jU n 300 r)(h:Tr B)(O:mo own r B p= .stop e):ThS e:=by
 unfold mo at O;erw[id hr,ks,hk,hp];erw[r,U,ps];by_cases c1:U∈MKR
 ·rw[A6 c1] at O;simp only at O;generalize made U B own ps=dm at O;have aa:(if isT dm=v_ then Out.go (sT B (b0 ps) dm) (p+1) else .stop (flt "big"))= .stop e->ThS e:=by
   intro hq;by_cases c:isT dm=v_
   ·rw[A6 c] at hq;cases hq
   ·rw[A4 c] at hq;cases hq;exact .inl ⟨0⟩
  cases dm with
  |non=>cases O;exact .inl ⟨0⟩
  |_=>exact aa O
 rw[A4 c1] at O;by_cases c2:U∈ASK
 ·rw[A6 c2] at O;cases O;erw[ZK _ hk c2,_,_,ek];simp only at ek;subst ek;erw[Z0 hp,z0,z1,rfl,h0,h1];have hT:=h z1 h1;show ThS (oY U (B z1));unfold oY;by_cases d1:U="names"
  ·rw[A6 d1];by_cases Z:isStr (B z1)=v_
   ·rw[A6 Z];obtain⟨z,ez⟩:∃z,B z1= .str z:=by
     cases hb:B z1 with
     |str z=>exact[z:1]
     |_=>rw[hb] at Z;cases Z
    rw[ez] at hT⊢;exact .inr (.inr ⟨_,z,1,hT,.inl rfl⟩)
   ·rw[A4 Z];exact .inl ⟨0⟩
  ·rw[A4 d1];by_cases Z:mx (B z1)=v_
   ·rw[A6 Z];erw[Dt Z,z,ez,hz];rw[ez] at hT⊢;refine .inr (.inr ⟨_,z,1,hT,.inr [?_:hz]⟩);split
    ·exact .inl rfl
    ·exact .inr rfl
   ·rw[A4 Z];exact .inl ⟨0⟩
 rw[A4 c2] at O;by_cases c3:U="say"
 ·rw[A6 c3] at O;cases O;subst c3;have ek:=sj _ hk rfl;simp only at ek;subst ek;erw[SR hp,z0,rfl,h0];exact .inr (.inl [0:h z0 h0])
 rw[A4 c3] at O;by_cases c4:U="fault"
 ·rw[A6 c4] at O;cases O;exact .inl ⟨0⟩
 rw[A4 c4] at O;by_cases c5:KC U B ps=v_
 ·rw[A6 c5] at O;cases O
 ·rw[A4 c5] at O;cases O
def pC {rs:oj Rw}{own:Str}(U:ya rs):∀(f:Nat) (B:Str->D) (p:Int) (n:Nat) (gs:oj D),Tr B->1<=p->p<=↑rs+1->ThS (mw rs own gs f B p n).th
 |0,B,p,n,gs,hT,h1,h2=>by
  show ThS (if p>↑rs then flt "silent" else flt "long")
  split<;>exact .inl ⟨0⟩
 |f+1,B,p,n,gs,hT,h1,h2=>by
  unfold mw;by_cases c:p>↑rs
  ·rw[A6 c];exact .inl ⟨0⟩
  ·rw[A4 c];have O:=U.ok _ (ke h1 ())
   have hok:=pF (own:=own) O hT h1 ()
   cases Z:mo own (jT rs p) B p with
   |go B' p'=>
    rw[Z] at hok;exact pC U f B' p' (n+1) gs hok.1 hok.2.1 hok.2.2
   |stop e=>exact LZ O hT Z
variable {rs:oj Rw}
def NF (O:ya rs){r:Rn}{a:D}(h:KZ rs r)(U:QJ r.th=v_)(ha:zl a):ThS (mt rs own r a).th:=by
 erw[h.ask U,k1,_];unfold mt;cases hn:Yz a with
 |true=>rw[A6 rfl];exact .inl ⟨0⟩
 |false=>
  rw[A4 uc];have Z:isT a=true:=by
   rcases ha with rfl|ha
   ·cases hn
   ·exact ha
  exact pC O _ _ _ _ _ (Kc h.tr Z) (by have:=h.p1;omega) ()
def Kh {rs:oj Rw}{own:Str}:∀(f:Nat) (B:Str->D) (p:Int) (n:Nat) (gs:oj D),QJ (mw rs own gs f B p n).th=v_->1<=f/\n<=(mw rs own gs f B p n).n
 |0,B,p,n,gs,h=>by
  have h:QJ (if p>↑rs then flt "silent" else flt "long")=true:=h
  split at h<;>exact A8 h ()
 |f+1,B,p,n,gs,h=>by
  exists ()
  unfold mw at h⊢;by_cases c:p>↑rs
  ·rw[A6 c] at h;exact A8 h (show¬QJ (flt "silent")=v_ by decide+kernel)
  ·rw[A4 c] at h⊢;cases U:mo own (jT rs p) B p with
   |go O p'=>
    rw[U] at h;have:=(Kh f O p' (n+1) gs h).2;show n<=(mw rs own gs f O p' (n+1)).n;omega
   |stop e=>
    show n<=(if QJ e=v_ then n else n+1)
    split<;>omega
def PZ {r:Rn}{a:D}(h:QJ (mt rs own r a).th=v_):r.n+1<300/\r.n+1<=(mt rs own r a).n:=by
 unfold mt at h⊢;cases hn:Yz a with
 |true=>rw[hn,A6 rfl] at h;exact A8 h (show¬QJ (flt "lack")=v_ by decide+kernel)
 |false=>
  rw[hn,A4 uc] at h;rw[A4 uc];have:=Kh _ _ _ _ _ h;exact[():this.2]
structure Gp where
 n:Str
 mb:D
 ra:oj D
 run:om (oj Rw×Rn)
 en:om D
nonrec def lC (r:Rn):om D:=if QJ r.th=v_ then US else u_ r.th
nonrec def me (g:Gp)(d:D):Gp:=if Yz d=v_ then{g with en:=u_ (flt "lack")} else match QI d with
 |none=>{g with en:=u_ (flt "rule")}
 |some rs=>{g with run:=u_ (rs,R0 rs g.n),en:=lC (R0 rs g.n)}
nonrec def Q3 (g:Gp)(d:D):Gp:=match g.run with
 |none=>me {g with ra:= [.tup [.tup [.str "rule",g.mb],d]]} d
 |some (rs,r)=>{g with run:=u_ (rs,mt rs g.n r d),en:=lC (mt rs g.n r d)}
nonrec def jt (g:Gp):D:=match g.run with
 |none=> .tup [.str "rule",g.mb]
 |some (_,r)=>Zd r.th
nonrec def X5 (qs:oj (Str×D))(k z:Str):D:=if k="has" then .str (if z∈qs.map (·.1) then "yes" else "no") else Bd (sY [] ((qs.map (·.1)).filter λy=>VS y z))
nonrec def ph (k:Str):Bool:=decide (k="has")||decide (k="names")
nonrec def yb (g:Gp):om Str:=match jt g with
 | .tup [.str k,.str z]=>if ph k=v_ then US else u_ z
 |_=>US
nonrec def mW (qs:oj (Str×D))(g:Gp):Gp:=match jt g with
 | .tup [.str k,.str z]=>Q3 g (X5 qs k z)
 |_=>{g with en:=u_ (flt "name")}
nonrec def jW:D->om D
 | .tup [.str k,v]=>if k="said" then u_ v else US
 |_=>US
nonrec def Ze (g:Gp):om D:=g.en.bind jW
nonrec def Ei (g:Gp)(m:Str):Gp:={g with en:=u_ (.tup [.str "stuck",.str m])}
nonrec def mY (g:Gp):Nat:=match g.en with
 |some _=>0
 |none=>match g.run with
  |none=>302
  |some (_,r)=>1+(300-r.n)
nonrec def g0D (m:Str):D->om Gp
 | .tup [.str k,e]=>if k="leaf" then US else if k="made" then u_ ⟨m,e,[],US,US⟩ else u_ (me ⟨m,.non,[],US,US⟩ e)
 |_=>US
nonrec def pM:D->om D
 | .tup [.str _,e]=>u_ e
 |_=>US
nonrec def SyP (qs:oj (Str×D)):Sy:=⟨Gp,λg=>g.en.isSome,yb,mW qs,λg a=>Q3 g (a.getD .non),Ei,Ze,λm=>g0D m (qS qs m),λm=>pM (qS qs m),mY,(302),qs.map (·.1)⟩
variable {g:Gp}
def Df (h:g.run=US)(d:D):g.en=US->mY (me g d)<302:=by
 intro O;unfold me;split
 ·show(0:Nat)<302;omega
 ·cases U:QI d with
  |none=>show(0:Nat)<302;omega
  |some rs=>
   show(match lC (R0 rs g.n) with|some _=>0|none=>1+(300-(R0 rs g.n).n))<302
   cases lC (R0 rs g.n) with
   |some d=>show(0:Nat)<302;omega
   |none=>show(1+(300-(R0 rs g.n).n):Nat)<302;omega
def kC (O:g.en=US)(d:D):mY (Q3 g d)<mY g:=by
 unfold Q3;cases U:g.run with
 |none=>
  have e:mY g=302:=by unfold mY;rw[O,U]
  rw[e];exact Df (g:=⟨g.n,g.mb,[.tup [.tup [.str "rule",g.mb],d]],US,g.en⟩) rfl d O
 |some p=>
  erw[p,rs,r];have e:mY g=1+(300-r.n):=by unfold mY;rw[O,U]
  rw[e];show(match lC (mt rs g.n r d) with|some _=>0|none=>1+(300-(mt rs g.n r d).n))<_
  unfold lC;by_cases c:QJ (mt rs g.n r d).th=v_
  ·rw[A6 c];have:=PZ c;show 1+(300-(mt rs g.n r d).n)<1+(300-r.n);omega
  ·rw[A4 c];show 0<1+(300-r.n);omega
variable {qs:oj (Str×D)}{z:Str}
def YQ (h:z∉qs.map (·.1)):qS qs z= .non:=by
 unfold qS;have:(qs.find? λp=>decide (p.1=z))=none:=by
  rw[Ue];intro p O e;exact h (Ae.mpr [p:O:uu e])
 rw[this]
 rfl
def QZ (qs:oj (Str×D)):(SyP qs).Ok where
 fs:=λ_ _=>rfl
 ss:=λg m=>by
  show jW (.tup [.str "stuck",.str m])=US;unfold jW;exact A4 ()
 sf:=λg v h=>by
  have h:Ze g=u_ v:=h;unfold Ze at h;show g.en.isSome=v_;cases O:g.en with
  |none=>rw[O] at h;cases h
  |some d=>rfl
 lo:=λg U Z=>by
  have O:g.en=none:=by
   cases O:g.en with
   |none=>rfl
   |some d=>have U:g.en.isSome=false:=U;rw[O] at U;cases U
  show mY (mW qs g)<mY g;unfold mW;split
  ·exact kC O _
  ·have:0<mY g:=by
    unfold mY;rw[O];simp only;split<;>omega
   exact this
 lt:=λg m a U Z=>by
  have O:g.en=none:=by
   cases O:g.en with
   |none=>rfl
   |some d=>have U:g.en.isSome=false:=U;rw[O] at U;cases U
  exact kC O _
 lk:=λg m U=>by
  have O:g.en=none:=by
   cases O:g.en with
   |none=>rfl
   |some d=>have U:g.en.isSome=false:=U;rw[O] at U;cases U
  show 0<mY g;unfold mY;rw[O];simp only;split<;>omega
 l0:=λm g h=>by
  have h:g0D m (qS qs m)=u_ g:=h;show mY g<=302;unfold g0D at h;split at h
  ·split at h
   ·cases h
   ·split at h
    ·cases h;exact uj _
    ·cases h;exact UN (Df rfl _ rfl)
  ·cases h
 gn:=λm g h=>by
  have h:g0D m (qS qs m)=u_ g:=h;show m∈qs.map (·.1);by_cases c:m∈qs.map (·.1)
  ·exact c
  ·rw[YQ c] at h;cases h
nonrec def EnS (d:D):Prop:=(∃z,d=flt z)∨(∃e,d= .tup [.str "said",e]/\isT e=v_)∨∃z,d= .tup [.str "stuck",.str z]
structure GI (g:Gp):Prop where
 n:nm g.n=v_
 run:∀rs r,g.run=u_ (rs,r)->ya rs/\KZ rs r/\ThS r.th/\(g.en=US->QJ r.th=v_)
 no:g.run=US->g.en=US->∃z,g.mb= .str z/\nm z=v_
 en:∀d,g.en=u_ d->EnS d
 ra:nL g.ra=v_/\dpL g.ra<=30/\↑g.ra<=1
def PK {r:Rn}(h:ThS r.th){d:D}(e:lC r=u_ d):EnS d:=by
 unfold lC at e;by_cases c:QJ r.th=v_
 ·rw[A6 c] at e;cases e
 ·rw[A4 c] at e;cases e;rcases h with h|h|⟨u,z,h,_⟩
  ·exact .inl h
  ·exact .inr (.inl h)
  ·rw[h] at c;exact A8 (show decide (("asks":Str)="asks")=v_ from ud rfl) c
def DQ {r:Rn}(e:lC r=US):QJ r.th=true:=by
 unfold lC at e;by_cases c:QJ r.th=v_
 ·exact c
 ·rw[A4 c] at e;cases e
def RO {n:Str}(h:ya rs):ThS (R0 rs n).th:=pC h 300 B0 1 0 [] NU () (by have:=h.n0;omega)
def KN (d:D)(h1:nm g.n=v_)(h2:g.run=US)(h3:nL g.ra=v_/\dpL g.ra<=30/\↑g.ra<=1):GI (me g d):=by
 unfold me;split
 ·exact⟨h1,λrs r e=>(by rw[show g.run=u_ (rs,r) from e] at h2;cases h2),(λ_ e=>by cases e),λd e=>by cases e;exact .inl ⟨0⟩,h3⟩
 ·cases U:QI d with
  |none=>exact⟨h1,λrs r e=>(by rw[show g.run=u_ (rs,r) from e] at h2;cases h2),(λ_ e=>by cases e),λd e=>by cases e;exact .inl ⟨0⟩,h3⟩
  |some rs=>
   have O:=(nI U).2;exact⟨h1,λZ r e=>by cases e;exact⟨O,RP O,RO O,λe=>DQ e⟩,λe _=>(by cases e),λd e=>PK (RO O) e,h3⟩
def si (h:GI g)(U:g.en=US){d:D}(ha:zl d):GI (Q3 g d):=by
 unfold Q3;cases Z:g.run with
 |none=>
  erw[h.no Z U,z,hz,_];refine KN d h.n rfl ?_;have O:nD d=v_/\dp d<=12:=by
   rcases ha with rfl|ha
   ·exact⟨1,by simp[dp]⟩
   ·exact[WD (QY ha):x9 ha]
  rw[hz];exists ?_,?_,uj _
  ·simp![nL,nD,O.1,vU]
  ·simp![dpL,dp];have:=O.2;omega
 |some p=>
  erw[p,rs,r];erw[h.run rs r Z,k1,k2,k3,k4];have hs:=NF (own:=g.n) k1 k2 (k4 U) ha;exact⟨h.n,λaa r' e=>by cases e;exact⟨k1,Eb k1 k2 (k4 U) ha,hs,λe=>DQ e⟩,λe _=>(by cases e),λd e=>PK hs e,h.ra⟩
def KL (h:GI g)(m:Str):GI (Ei g m):=⟨h.n,λrs r e=>⟨(h.run rs r e).1,(h.run rs r e).2.1,(h.run rs r e).2.2.1,(λz=>by cases z)⟩,(λ_ e=>by cases e),λd e=>by cases e;exact .inr (.inr [m:1]),h.ra⟩
def nH:∀(zs O:oj Str),isT (Bd O)=v_->isT (Bd (sY O zs))=v_
 | [],O,h=>h
 |z::r,O,h=>by
  unfold sY;split
  ·rename_i c;exact nH r _ c
  ·exact h
def pT (U:ye qs){k:Str}(z:Str)(hk:ph k=v_):isT (X5 qs k z)=v_/\AQ k (X5 qs k z)=true:=by
 unfold X5;by_cases c:k="has"
 ·rw[A6 c,c];split<;>exact[():()]
 ·rw[A4 c];have O:isT (Bd (sY [] ((qs.map (·.1)).filter λy=>VS y z)))=true:=nH _ [] ()
  exists O;have Z:IA (Bd (sY [] ((qs.map (·.1)).filter λy=>VS y z)))=true:=by
   show List.all (Hq D.str _) mx=v_;rw[U5];intro x hx;erw[Ae.mp hx,y,hy,rfl];rcases sX _ _ _ hy with h|h
   ·cases h
   ·exact U.1.1.1 y (List.mem_filter.mp h).1
  unfold AQ;rw[A4 (show¬Yz (Bd _)=v_ from uc),A6 O,A4 c,Z,Bool.or_true]
def Zj (h:GI g)(he:g.en=US)(U:yb g=US):∃rs r k z,g.run=u_ (rs,r)/\r.th= .tup [.str "asks",.tup [.str k,.str z]]/\ph k=v_/\isT (.str z)=v_/\mW qs g=Q3 g (X5 qs k z):=by
 unfold yb at U;cases Z:g.run with
 |none=>
  erw[h.no Z he,z,hz,_];have e:jt g= .tup [.str "rule",.str z]:=by unfold jt;rw[Z,hz]
  rw[e] at U;simp![show ph "rule"=UT by decide+kernel,A4 uc] at U
  cases U
 |some p=>
  erw[p,rs,r];erw[h.run rs r Z,k1,k2,k3,k4];have O:=k4 he;rcases k3 with⟨z,e⟩|⟨d,e,_⟩|⟨u,z,e,ht,hu⟩
  ·rw[e] at O;exact A8 O (by show¬decide (("fault":Str)="asks")=v_;decide+kernel)
  ·rw[e] at O;exact A8 O (by show¬decide (("said":Str)="asks")=v_;decide+kernel)
  ·have e2:jt g= .tup [.str u,.str z]:=by unfold jt;rw[Z];show Zd r.th=_;rw[e];rfl
   rw[e2] at U;simp only at U;cases hk:ph u with
   |false=>rw[hk,A4 uc] at U;cases U
   |true=>exact⟨rs,r,u,z,1,e,hk,ht,by unfold mW;rw[e2]⟩
variable {m:Str}
def Wi (h:GI g)(he:g.en=US)(O:yb g=u_ m):nm m=v_/\((g.run=US/\g.mb= .str m)∨∃rs r,g.run=u_ (rs,r)/\r.th= .tup [.str "asks",.tup [.str "thing",.str m]]):=by
 unfold yb at O;cases Z:g.run with
 |none=>
  erw[h.no Z he,z,hz,hn];have e:jt g= .tup [.str "rule",.str z]:=by unfold jt;rw[Z,hz]
  rw[e] at O;simp![show ph "rule"=UT by decide+kernel,A4 uc] at O
  cases O;exact[hn:.inl [1:hz]]
 |some p=>
  erw[p,rs,r];erw[h.run rs r Z,k1,k2,k3,k4];have U:=k4 he;rcases k3 with⟨z,e⟩|⟨d,e,_⟩|⟨u,z,e,ht,hu⟩
  ·rw[e] at U;exact A8 U (by show¬decide (("fault":Str)="asks")=v_;decide+kernel)
  ·rw[e] at U;exact A8 U (by show¬decide (("said":Str)="asks")=v_;decide+kernel)
  ·have e2:jt g= .tup [.str u,.str z]:=by unfold jt;rw[Z];show Zd r.th=_;rw[e];rfl
   rw[e2] at O;simp only at O;rcases hu with rfl|⟨rfl|rfl,hn⟩
   ·rw[A6 ()] at O;cases O
   ·rw[A4 ()] at O
    cases O;exact[hn:.inr ⟨rs,r,1,e⟩]
   ·rw[A6 ()] at O;cases O
def KM (U:ye qs)(h:GI g)(O:g.en=US)(Z:yb g=US):GI (mW qs g):=by
 erw[Zj (qs:=qs) h O Z,rs,r,k,z,_,_,hk,_,e];rw[e];exact si h O (.inr (pT U z hk).1)
def JG (U:ye qs)(h:m∈qs.map (·.1)):nm m=v_/\∃k e,qS qs m= .tup [.str k,e]/\(k="made"->∃z,e= .str z/\nm z=v_)/\(k≠"made"->(k="leaf"∨k="rule")/\isT e=v_):=by
 have hs:=U.1.2 _ (Ny U.1.1.2 h);erw[hs,[k,e,O],h2,_];have O:qS qs m= .tup [.str k,e]:=O;have h2:oA (qS qs m)=true:=h2;rw[O] at h2;have e1:oA (.tup [.str k,e])=if eqD (.str k) (.str "made")=v_ then mx e else(eqD (.str k) (.str "leaf")||eqD (.str k) (.str "rule"))&&isT e:=rfl
 rw[e1] at h2;have Z:∀y:Str,eqD (.str k) (.str y)=decide (k=y):=λy=>rfl;rw[Z,Z,Z] at h2;exists U.1.1.1 m h,k,e,O,λc=>?_,λc=>?_
 ·rw[ud c,A6 rfl] at h2;exact Dt h2
 ·rwa[uf c,A4 uc,uC,GV,uZ,uZ] at h2
def DB (U:ye qs)(h:g0D m (qS qs m)=u_ g):GI g/\g.n=m:=by
 have hm:m∈qs.map (·.1):=(QZ qs).gn m g h;erw[JG U hm,hn,k,e,hd,h1,h2];rw[hd] at h;unfold g0D at h;simp only at h;have O:nL ([]:oj D)=v_/\dpL ([]:oj D)<=30/\↑([]:oj D)<=1:=⟨1,by simp[dpL],uW _⟩
 split at h
 ·cases h
 ·split at h
  ·rename_i c
   cases h;erw[h1 c,z,rfl,Z];exact⟨⟨hn,λrs r e=>(by cases e),λ_ _=>[z:1:Z],λd e=>(by cases e),O⟩,1⟩
  ·cases h;exists KN e hn rfl O;unfold me;split
   ·rfl
   ·split<;>rfl
def Ce (h:GI g){v:D}(e:Ze g=u_ v):isT v=true:=by
 unfold Ze at e;cases O:g.en with
 |none=>rw[O] at e;cases e
 |some d=>
  rw[O] at e;have e:jW d=u_ v:=e;rcases h.en d O with⟨z,rfl⟩|⟨x,rfl,U⟩|⟨z,rfl⟩
  ·exact A8 e (by unfold jW flt;simp only;rw[A4 ()];exact λh=>by cases h)
  ·have Z:jW (.tup [.str "said",x])=u_ x:=by unfold jW;dsimp only;exact A6 rfl
   rw[Z] at e;cases e;exact U
  ·exact A8 e (by unfold jW;simp only;rw[A4 ()];exact λh=>by cases h)
def BJ (g:Gp)(d:D):(Q3 g d).n=g.n:=by
 unfold Q3;split
 ·unfold me;split
  ·rfl
  ·split<;>rfl
 ·rfl
def OV (qs:oj (Str×D))(g:Gp):(mW qs g).n=g.n:=by
 unfold mW;split
 ·exact BJ _ _
 ·rfl
nonrec def SGI {qs:oj (Str×D)}(S:Sy.Ss (SyP qs)):Prop:=∀p:Str×Gp,p∈S.stk∨p∈S.don->GI p.2/\p.2.n=p.1
def IT (Z:ye qs){S:Sy.Ss (SyP qs)}(h:SGI S){a:om D}(e:Sy.yet S m=u_ (u_ a)):zl (a.getD .non):=by
 unfold Sy.yet at e;split at e
 ·cases e
 ·split at e
  ·rename_i O
   cases e;have O:g0D m (qS qs m)=none:=O;show zl ((pM (qS qs m)).getD .non);by_cases hm:m∈qs.map (·.1)
   ·erw[JG Z hm,hn,k,e,hd,h1,h2];rw[hd] at O⊢;unfold g0D at O;simp only at O;by_cases c:k="leaf"
    ·exact .inr (h2 (by rw[c];decide+kernel)).2
    ·rw[A4 c] at O;split at O<;>cases O
   ·rw[YQ hm];exact .inl rfl
  ·cases hd:Sy.jZ S.don m with
   |none=>rw[hd] at e;cases e
   |some g=>
    rw[hd] at e;have e:(Ze g).map u_=u_ a:=uL e;cases U:Ze g with
    |none=>rw[U] at e;cases e
    |some v=>
     rw[U] at e;cases e;exact .inr (Ce (h (m,g) (.inr (Sy.WI hd))).1 U)
def C0 (hq:ye qs){S:Sy.Ss (SyP qs)}(h:SGI S):SGI (Sy.nxt S):=by
 erw[S,stk,don];cases stk with
 |nil=>exact h
 |cons p r=>
  erw[p,n,g];erw[h (n,g) (.inl ui),U,hn];have on:∀g':Gp,GI g'->g'.n=n->SGI #[Y,(n,g')::r,don]:=by
   intro g' h1 h2 p O;rcases O with O|O
   ·rcases Aa.mp O with rfl|O
    ·exact[h1:h2]
    ·exact h p (.inl (uh _ O))
   ·exact h p (.inr O)
  unfold Sy.nxt;simp only;by_cases hf:(SyP qs).fin g=v_
  ·rw[A6 hf];intro p O;rcases O with O|O
   ·exact h p (.inl (uh _ O))
   ·rcases Ac.mp O with O|O
    ·exact h p (.inr O)
    ·cases Ab.mp O;exact[U:hn]
  ·rw[A4 hf];have Z:Gp.en g=none:=by
    cases Z:Gp.en g with
    |none=>rfl
    |some d=>exact A8 (show(Gp.en g).isSome=v_ by rw[Z];rfl) hf
   cases hw:(SyP qs).want g with
   |none=>exact on _ (KM hq U Z hw) ((OV qs g).trans hn)
   |some m=>
    simp only;cases hy:Sy.yet #[Y,(n,g)::r,don] m with
    |some o=>
     cases o with
     |some a=>exact on _ (si U Z (IT hq h hy)) ((BJ _ _).trans hn)
     |none=>exact on _ (KL U m) hn
    |none=>
     erw[Sy.XC hy,_,[g',e],_];simp only;rw[e];intro p O;rcases O with O|O
     ·rcases Aa.mp O with rfl|O
      ·exact DB hq e
      ·exact h p (.inl O)
     ·exact h p (.inr O)
structure Oc where
 (x dx px ls du dr df:o3)
nonrec def ofs (o:Oc):oj (Str×V):= [("given_project",.ref o.px),("stack",.ref o.ls),("under_way",.ref o.du),("full_runs",.ref o.dr),("found",.ref o.df)]
nonrec def OMT:oj Str:= ["go_through","enter","settle","runner","leave","go_on","answer_yet","begin_anew"]
def Il (o:Oc):(ofs o).lookup ("given_project":Str)=u_ (.ref o.px):=rfl
def Ik (o:Oc):(ofs o).lookup ("stack":Str)=u_ (.ref o.ls):=rfl
def MQ (o:Oc):(ofs o).lookup ("under_way":Str)=u_ (.ref o.du):=rfl
def O8 (o:Oc):(ofs o).lookup ("full_runs":Str)=u_ (.ref o.dr):=rfl
def Im (o:Oc):(ofs o).lookup ("found":Str)=u_ (.ref o.df):=rfl
def wV (o:Oc):∀m∈OMT,(ofs o).lookup m=none:=by
 intro m hm;simp![OMT,uG,uH,uO] at hm;rcases hm with rfl|rfl|rfl|rfl|rfl|rfl|rfl|rfl<;>rfl
structure Kp (L:oj o3)(H H':Hp):Prop where
 kept:∀b ob,H b=u_ ob->b∉L->H' b=u_ ob
 tk:Tk H H'
variable {L:oj o3}{H H':Hp}
def Kp.of (s:ic H H'):Kp L H H':=[λb ob h _=>s b ob h:s.tk]
variable {H1 H2:Hp}
def Kp.trans (h:Kp L H H1)(k:Kp L H1 H2):Kp L H H2:=[λb ob e n=>k.kept b ob (h.kept b ob e n) n:h.tk.trans k.tk]
variable {p:o3}
def Kp.updD {xs ys:oj (Key×V)}(h:H p=u_ (.dK xs))(O:p∈L):Kp L H (upd H p (.dK ys)):=⟨λb ob e n=>by have nb:b≠p:=(λz=>n (by rwa[z]));rwa[qk nb],Tk.updD h⟩
variable {b:o3}
def Kp.free (k:Kp L H H')(h:H' b=US)(O:∀p∈L,H' p≠US):H b=none:=by
 cases e:H b with
 |none=>rfl
 |some ob=>rw[k.kept b ob e (λz=>O b z h)] at h;cases h
def Zv {κ:Type}[DecidableEq κ](k j:κ):∀kvs:oj (κ×V),iK (j8 kvs k) j=if j=k then US else iK kvs j
 | []=>by show US=_;split<;>rfl
 |p::r=>by
  by_cases c:p.1=k
  ·rw[DS c,Zv k j r];by_cases d:j=k
   ·rw[A6 d,A6 d]
   ·rw[A4 d,A4 d,QD (λz=>d (z.symm.trans c))]
  ·rw[DT c];by_cases d:p.1=j
   ·rw[QL d,A4 (λz=>c (d.trans z)),QL d]
   ·rw[QD d,Zv k j r,QD d]
variable {C:o3}
def Yb.kp {x:o3}(h:Yb C H x qs)(k:Kp L H H')(Z:∀p∈L,(∃xs,H p=u_ (.lst xs))∨(∃xs,H p=u_ (.dK xs))∨H p=US):Yb C H' x qs:=by
 erw[h,dx,d,o,vs,O,U,e3,e4];have n1:x∉L:=λz=>by rcases Z x z with⟨_,e⟩|⟨_,e⟩|e<;>rw[e] at O<;>cases O
 have n2:d∉L:=λz=>by rcases Z d z with⟨_,e⟩|⟨_,e⟩|e<;>rw[e] at U<;>cases U
 exact⟨dx,d,o,vs,k.kept _ _ O n1,k.kept _ _ U n2,e3,e4.mono k.tk⟩
structure OAt (CO CP:o3)(H:Hp)(o:Oc)(qs:oj (Str×D)):Prop where
 e:H o.x=u_ (.ins CO o.dx (ofs o))
 p:Yb CP H o.px qs
def OAt.kp {CO CP:o3}{o:Oc}(h:OAt CO CP H o qs)(k:Kp L H H')(O:∀p∈L,(∃xs,H p=u_ (.lst xs))∨(∃xs,H p=u_ (.dK xs))∨H p=US):OAt CO CP H' o qs:=by
 exists k.kept _ _ h.e (λz=>?_),h.p.kp k O;have U:=h.e;rcases O o.x z with⟨_,e⟩|⟨_,e⟩|e<;>rw[e] at U<;>cases U
nonrec def NH {qs:oj (Str×D)}(S:Sy.Ss (SyP qs))(uk:oj (Key×V)):Prop:=∀m:Str,(iK uk (UV m)).isSome=decide (m∈S.stk.map (·.1))
nonrec def BA {qs:oj (Str×D)}(H:Hp)(S:Sy.Ss (SyP qs))(fk:oj (Key×V)):Prop:=∀(m:Str) (g:Gp),g0D m (qS qs m)=u_ g->
 (∀g':Gp,Sy.jZ S.don m=u_ g'->∃v,iK fk (UV m)=u_ v/\Is H (Yo (g'.en.getD .non)) v)/\(Sy.jZ S.don m=US->iK fk (UV m)=US)
def BA.mono {S:Sy.Ss (SyP qs)}{fk:oj (Key×V)}(h:BA H S fk)(t:Tk H H'):BA H' S fk:=λm g O=>⟨λg' e=>let⟨v,a,b⟩:=(h m g O).1 g' e;[v:a:b.mono t],(h m g O).2⟩
nonrec def IP:om (om D)->D->Prop
 |some (u_ v),d=>d= .tup [.str "value",v]
 |some US,d=>d= .tup [.str "lack"]
 |none,d=>∃k r,d= .tup (.str k::r)/\k≠"value"/\k≠"lack"
nonrec def nrg (d:D):Prop:=∃k r,d= .tup (.str k::r)/\(k="value"∨k="lack"∨k="fault"∨k="stuck")
nonrec def Aat (qs:oj (Str×D))(don:oj (Str×Gp))(m:Str):D:=match g0D m (qS qs m) with
 |none=>YY (qS qs m)
 |some _=>Yo (((Sy.jZ (Y:=SyP qs) don m).bind λg:Gp=>g.en).getD .non)
nonrec def By {qs:oj (Str×D)}(H:Hp)(S:Sy.Ss (SyP qs))(m:Str)(v:V):Prop:=match Sy.yet S m with
 |none=>v= .non
 |some o=>∃d,Is H d v/\IP o d/\(m∉S.stk.map (·.1)->nrg d/\d=Aat qs S.don m)
inductive Ou (CO CP:Addr):Sp
 |mk (o:Oc)(m:Str)(qs:List (Str×D))(S:Sy.Ss (SyP qs))(uk fk:List (Key×V))(_:vs= [.ref o.x,.str m])(_:OAt CO CP H o qs)(_:ye qs)(_:SGI S)(_:H o.du=u_ (.dK uk))(_:NH S uk)(_:H o.df=u_ (.dK fk))(_:BA H S fk)(_:↑fk<=100000)(_:(∀p∈S.don,(SyP qs).fin p.2=v_))(_:∀(v:V)(H':Hp)(fk':List (Key×V)),Kp [o.df] H H'->H' o.df=u_ (.dK fk')->BA H' S fk'->↑fk'<=↑fk+1->(Sy.yet S m=US->↑fk'=↑fk)->By H' S m v->Q v H')
inductive B8 (CO:Addr):Sp
 |mk (x dx px:Addr)(_:vs= [.ref x,.ref px])(_:H x=u_ (.ins CO dx []))(_:∀(o:Oc)(H':Hp),o.x=x->o.dx=dx->o.px=px->(∀b ob,H b=u_ ob->b≠x->H' b=u_ ob)->Tk H H'->H o.ls=US->H o.du=US->H o.dr=US->H o.df=US-> [o.ls,o.du,o.dr,o.df].Nodup->H' x=u_ (.ins CO dx (ofs o))->H' o.ls=u_ (.lst [])->H' o.du=u_ (.dK [])->H' o.dr=u_ (.dK [])->H' o.df=u_ (.dK [])->Q .non H')
inductive EB:Sp
 |mk (x:_)(y:_)(_:vs= [x,y])(_:Q .non H)
def EY (O:ye qs)(h:g0D m (qS qs m)=US):∃k,YY (qS qs m)= .tup k/\IP (u_ (pM (qS qs m))) (.tup k)/\nrg (.tup k):=by
 by_cases hm:m∈qs.map (·.1)
 ·erw[JG O hm,hn,k,e,hd,h1,h2];rw[hd] at h⊢;unfold g0D at h;simp only at h;by_cases c:k="leaf"
  ·exists [.str "value",e],?_,1,[_:0:.inl rfl];unfold YY;simp only;exact A6 c
  ·rw[A4 c] at h;split at h<;>cases h
 ·rw[YQ hm];exact[0:1:[_:0:.inr (.inl rfl)]]
def Mn (O:ye qs)(h:g0D m (qS qs m)=u_ g):YY (qS qs m)= .non:=by
 erw[JG O ((QZ qs).gn m g h),hn,k,e,hd,h1,h2];rw[hd] at h⊢;unfold g0D at h;simp only at h;by_cases c:k="leaf"
 ·rw[A6 c] at h;cases h
 ·unfold YY;simp only;exact A4 c
def PY (h:GI g)(hf:g.en.isSome=v_):IP ((Ze g).map u_) (Yo (g.en.getD .non)):=by
 cases Z:g.en with
 |none=>rw[Z] at hf;cases hf
 |some d=>
  unfold Ze;rw[Z];show IP ((jW d).map u_) (Yo d);rcases h.en d Z with⟨z,rfl⟩|⟨x,rfl,hx⟩|⟨z,rfl⟩
  ·have O:jW (flt z)=none:=by unfold jW flt;dsimp only;exact A4 ()
   have U:Yo (flt z)=flt z:=by unfold Yo flt;dsimp only;exact A4 ()
   rw[O,U];exact⟨"fault",[.str z],1,(),()⟩
  ·have O:jW (.tup [.str "said",x])=u_ x:=by unfold jW;dsimp only;exact A6 rfl
   have U:Yo (.tup [.str "said",x])= .tup [.str "value",x]:=by unfold Yo;dsimp only;exact A6 rfl
   rw[O,U];exact rfl
  ·have O:jW (.tup [.str "stuck",.str z])=none:=by unfold jW;dsimp only;exact A4 ()
   have U:Yo (.tup [.str "stuck",.str z])= .tup [.str "stuck",.str z]:=by unfold Yo;dsimp only;exact A4 ()
   rw[O,U];exact⟨"stuck",[.str z],1,(),()⟩
def NE (h:GI g)(U:g.en.isSome=v_):nrg (Yo (g.en.getD .non)):=by
 cases Z:g.en with
 |none=>rw[Z] at U;cases U
 |some d=>
  show nrg (Yo d);rcases h.en d Z with⟨z,rfl⟩|⟨x,rfl,hx⟩|⟨z,rfl⟩
  ·have O:Yo (flt z)=flt z:=by unfold Yo flt;dsimp only;exact A4 ()
   rw[O];exact[_:0:.inr (.inr (.inl rfl))]
  ·have O:Yo (.tup [.str "said",x])= .tup [.str "value",x]:=by unfold Yo;dsimp only;exact A6 rfl
   rw[O];exact[_:0:.inl rfl]
  ·have O:Yo (.tup [.str "stuck",.str z])= .tup [.str "stuck",.str z]:=by unfold Yo;dsimp only;exact A4 ()
   rw[O];exact[_:0:.inr (.inr (.inr rfl))]
section
variable {P:o9}{w:og}{K:o0}{mg:Str->om o6}{base:o8}{a:Ad}{g:Ga}
def E8:#[T,1,a.Y0,a.YV,["self","going"],EB]:=by
 exists 9,T.iX,xH,O
 erw[h,x,y,rfl,q];exists 3,%[|Ma]
 exact q
def MP:#[T,1,a.yC,a.yz,["self","project"],(B8 a.qo)]:=by
 exists 9,T.io,jl
 erw[h,x,dx,px,rfl,hx,q];have hs:=uD;exists 3,%[#[Qc,pv 1],#[Qc,#[QF,qd]],#[Qc,Xg],#[Qc,Xg]|#[Qc,Xg]]
 exists 0,0,x,_,dx,0,hx,T.qx,T.qX,()
 exists (sml rfl),λU h1=>?_;have n1:x≠U:=ql qg h1
 exists 5
 refine⟨0,x,_,dx,0,(qk n1).trans qg,T.qx,T.QB,by show 1<1000;decide,?_⟩
 intro Z h2;have n2:x≠Z:=ql qg h2
 exists 5
 refine⟨0,x,_,dx,0,(qk n2).trans qg,T.qx,T.Qw,by show 2<1000;decide,?_⟩
 intro l3 h3;have n3:x≠l3:=ql qg h3
 exists 5
 refine⟨0,x,_,dx,0,(qk n3).trans qg,T.qx,T.QX,by show 3<1000;decide,?_⟩
 intro l4 h4;have n4:x≠l4:=ql qg h4
 exists 5
 refine⟨0,x,_,dx,0,(qk n4).trans qg,T.qx,T.Qy,by show 4<1000;decide,?_⟩
 rw[qk n1.symm] at h1;have O:Z≠U:=λz=>by rw[z,qk n1.symm,qg] at h2;cases h2
 have k2:H Z=none:=by rwa[qk n2.symm,qk O,qk n2.symm] at h2
 have aa:l3≠Z:=λz=>by rw[z,qk n2.symm,qg] at h3;cases h3
 have ac:l3≠U:=λz=>by rw[z,qk n1.symm,qk O.symm,qk n1.symm,qg] at h3;cases h3
 have k3:H l3=none:=by rwa[qk n3.symm,qk aa,qk n3.symm,qk ac,qk n3.symm] at h3
 have ad:l4≠l3:=λz=>by rw[z,qk n3.symm,qg] at h4;cases h4
 have ae:l4≠Z:=λz=>by rw[z,qk n2.symm,qk aa.symm,qk n2.symm,qg] at h4;cases h4
 have af:l4≠U:=λz=>by rw[z,qk n1.symm,qk ac.symm,qk n1.symm,qk O.symm,qk n1.symm,qg] at h4;cases h4
 have k4:H l4=none:=by rwa[qk n4.symm,qk ad,qk n4.symm,qk ae,qk n4.symm,qk af,qk n4.symm] at h4
 have kp:∀b ob,H b=u_ ob->b≠x->(upd (upd (upd (upd (upd (upd (upd (upd (upd H x (.ins a.qo dx (iB "given_project" (V.ref px) []))) U (.lst [])) x (.ins a.qo dx (iB "stack" (V.ref U) (iB "given_project" (V.ref px) [])))) Z (.dK [])) x (.ins a.qo dx (iB "under_way" (V.ref Z) (iB "stack" (V.ref U) (iB "given_project" (V.ref px) []))))) l3 (.dK [])) x (.ins a.qo dx (iB "full_runs" (V.ref l3) (iB "under_way" (V.ref Z) (iB "stack" (V.ref U) (iB "given_project" (V.ref px) [])))))) l4 (.dK [])) x (.ins a.qo dx (iB "found" (V.ref l4) (iB "full_runs" (V.ref l3) (iB "under_way" (V.ref Z) (iB "stack" (V.ref U) (iB "given_project" (V.ref px) []))))))) b=u_ ob:=λb ob h nb=>by
  rwa[qk nb,qk (ql h k4),qk nb,qk (ql h k3),qk nb,qk (ql h k2),qk nb,qk (ql h h1),qk nb]
 refine q ⟨x,dx,px,U,Z,l3,l4⟩ _ rfl rfl rfl kp ?_ h1 k2 k3 k4 ?_ ?_ ?_ ?_ ?_ ?_
 ·exists 5
  refine[λb xs e=>kp b _ e (λz=>?_):λb xs e=>[xs:kp b _ e (λz=>?_)]:λb xs e=>[xs:kp b _ e (λz=>?_)]]<;>(rw[z,hx] at e;cases e)
 ·simp![Uj,uG,uH,uO,UR,UL,vG,and_true];exact[[O.symm:ac.symm:af.symm]:[aa.symm:ae.symm]:ad.symm]
 ·exact qg
 ·rw[qk n1.symm,qk af.symm,qk n1.symm,qk ac.symm,qk n1.symm,qk O.symm,qk n1.symm];exact qg
 ·rw[qk n2.symm,qk ae.symm,qk n2.symm,qk aa.symm,qk n2.symm];exact qg
 ·rw[qk n3.symm,qk ad.symm,qk n3.symm];exact qg
 ·rw[qk n4.symm];exact qg
def E5:#[T,2,a.yN,a.je,["self","project"],(B8 a.qo)]:=by
 have U:=#[MP,T];exists 9,T.lq,XB,Z
 erw[h,x,dx,px,rfl,O,q];exists 3,%[|#[qZ,#[Qg,20,pv 0,T.qx,T.io.h,U,Z.mono (),T.io.b,.nil,qz,#v[pv 1],_,_,_]]]
 exact⟨0,x,dx,0,O,1,0,x,dx,px,1,O,q⟩
def Kr:#[T,2,a.yB,a.yA,["self","name"],(Ou a.qo a.qE)]:=by
 have qL:=#[yP,T];have Yf:=#[CL,T];exists 9,T.iq,yo
 erw[h,o,m,qs,S,uk,fk,rfl,hO,hq,hG,ac,hU,aa,hF,hl,Z,k];have hs:=uD;exists 3,%[#[qG,#[pt_cmp,#[Aj,5,QU hr,pv 1,#[qO,5,pv 0,rfl]]],%[|#[qp,#[qB,#v[qj]]]],qw],#[qC,(2),yo.nd,#[qu,Yf,hr.mono (),T.iI,#v[#[Qg,#[qO,5,pv 0,rfl],T.QS,T.ii,qL,#v[pv 1]]]]],#[qG,#[qr,W8,pv 2,qP],%[|#[Jp,#[qO,5,pv 0,rfl],pv 1,pv 2]],qw]|#[qp,#[Ai,7,QU hr,#[qO,5,pv 0,rfl],pv 1,⟨1,1,1,1⟩]]]
 exists 0,0,o.x,_,o.dx,_,0,hO.e,T.qx,T.Qw,MQ o,o.du,0,mJ.k (k:=UV m) ac,0;rw[hU m];by_cases c:m∈S.stk.map (·.1)
 ·have ey:Sy.yet S m=u_ none:=by unfold Sy.yet;rw[A6 c]
  refine lP (ud c) [(sml rfl):λt ht=>?_];have s1:=qf ht (.tup [V.str "ring"]);refine k _ _ fk (Kp.of s1) (s1 _ _ aa) (hF.mono s1.tk) (GT _) (λ_=>rfl) ?_;unfold By;rw[ey];exact⟨_,Is.new (ds:= [.str "ring"]) ⟨_,0,Ya (),1⟩ ht,⟨"ring",[],1,(),()⟩,λz=>A8 c z⟩
 refine lr (uf c) ?_
 exists 0,o.x,_,o.dx,_,0,hO.e,T.qx,T.qX,Il o;erw[id hO.p,ad,dp,op,ah,hx,hd,hk,hv]
 exists o.px,ad,0,hx,yp,0,o.px,m,qs,1,hO.p,λv h1 h2=>?_;have ae:Is H (qS qs m) v:=by
  by_cases cm:m∈qs.map (·.1)
  ·exact h1 cm
  ·rw[h2 cm,YQ cm];exact rfl
 exists v,qS qs m,1,ae,?_,λu H1 s1 hu=>?_
 ·by_cases cm:m∈qs.map (·.1)
  ·erw[JG hq cm,_,k,e,hd,_];exact .inr [k:e:hd]
  ·exact .inl (YQ cm)
 have O:=s1 _ _ aa
 exists 0,1,0;cases hg:g0D m (qS qs m) with
 |none=>
  erw[EY hq hg,l,e1,e2,e3];rw[e1] at hu;have af:u≠ .non:=JC hu (by intro z;cases z)
  have ey:Sy.yet S m=u_ (u_ (pM (qS qs m))):=by have U:=hg;unfold Sy.yet;rw[A4 c,show(SyP qs).g0 m=_ from U];rfl
  refine lP (by simp[af]) ?_
  have kp:Kp [o.df] H (upd H1 o.df (.dK (lD fk (UV m) u))):=(Kp.of s1).trans (Kp.updD O ui)
  exists 0,0,o.x,_,o.dx,_,0,s1 _ _ hO.e,T.qx,T.Qy,Im o,0,o.df,0,Eg.k (k:=UV m) O ()
  have ag:=hO.kp kp (by intro p hp;cases Ab.mp hp;exact .inr (.inl [_:aa]))
  exists 0,o.x,_,o.dx,_,0,ag.e,T.qx,T.Qy,Im o,o.df,1,.inl [_:.inl qg],0,_,mJ.k (k:=UV m) qg;rw[Xa,A6 rfl];refine k _ _ _ kp qg ?_ (yj _ _ _) (λz=>by rw[ey] at z;cases z) ?_
  ·intro m' g' U;rw[Xa,A4 (λz=>by injection z with z;rw[z,hg] at U;cases U)]
   exact(hF.mono kp.tk) m' g' U
  ·unfold By;rw[ey];exact⟨_,(hu.mono (Tk.updD O)),e2,λ_=>⟨e3,by unfold Aat;rw[hg];exact e1.symm⟩⟩
 |some g=>
  rw[Mn hq hg] at hu;cases(show u= .non from hu)
  refine lr (by simp) ?_
  exists 0,o.x,_,o.dx,_,0,s1 _ _ hO.e,T.qx,T.Qy,Im o,o.df,1,.inl [_:.inl O],0,_,mJ.k (k:=UV m) O;refine k _ _ fk (Kp.of s1) O (hF.mono s1.tk) (GT _) (λ_=>rfl) ?_;have ey:Sy.yet S m=(Sy.jZ S.don m).map λg=>(Ze g).map some:=by have U:=hg;unfold Sy.yet;rw[A4 c,show(SyP qs).g0 m=_ from U];rfl
  erw[hF m g hg,f1,f2];unfold By;rw[ey];cases hd:Sy.jZ S.don m with
  |none=>
   rw[f2 hd];exact rfl
  |some g'=>
   erw[f1 g' hd,y,e1,e2];rw[e1];exact⟨_,e2.mono s1.tk,PY (hG (m,g') (.inr (Sy.WI hd))).1 (Z (m,g') (Sy.WI hd)),λ_=>⟨NE (hG (m,g') (.inr (Sy.WI hd))).1 (Z (m,g') (Sy.WI hd)),by unfold Aat;rw[hg,hd];rfl⟩⟩
structure mV (g:Gc)(s:Gs)(p:Gp):Prop where
 n:g.n=p.n
 mb:s.mb=p.mb
 ra:s.ra=p.ra
 run:(s.run.map λq=>(q.1.rs,q.2))=p.run
 own:∀mc r,s.run=u_ (mc,r)->mc.own=g.n
 en:s.en=p.en.getD .non
nonrec def NV:om (Mc×Rn)->oj o3
 |none=> []
 |some (mc,_)=> [mc.x,mc.db,mc.dg]
nonrec def plc (g:Gc)(s:Gs):oj o3:=g.x::NV s.run
def mV.none {g:Gc}{s:Gs}{p:Gp}(h:mV g s p)(e:p.run=US):s.run=none:=by
 have:=h.run;rw[e] at this;cases O:s.run with
 |none=>rfl
 |some q=>rw[O] at this;cases this
def mV.some {g:Gc}{s:Gs}{p:Gp}(h:mV g s p){rs:oj Rw}{r:Rn}(e:p.run=u_ (rs,r)):∃mc:Mc,s.run=u_ (mc,r)/\mc.rs=rs/\mc.own=g.n:=by
 have:=h.run;rw[e] at this;cases O:s.run with
 |none=>rw[O] at this;cases this
 |some q=>
  erw[q,mc,U];rw[O] at this;cases this;exact⟨mc,1,1,h.own mc U O⟩
variable {CM:o3}
def lR.frame {g:Gc}{s:Gs}(h:lR C CM H g s)(O:∀b∈plc g s,∀ob,H b=u_ ob->H' b=u_ ob)(t:Tk H H'):lR C CM H' g s:=by
 erw[h,dx,fs,mv,av,rv,ev,e,f,i,j,k,l];exists dx,fs,mv,av,rv,ev,O _ ui _ e,f,i.mono t,j.mono t,?_,l.mono t;cases U:s.run with
 |none=>rwa[U] at k
 |some q=>
  erw[q,mc,r];have hp:plc g s= [g.x,mc.x,mc.db,mc.dg]:=by unfold plc NV;rw[U]
  rw[hp] at O;rw[U] at k;erw[k,k1,k2,dm,fm,Z,ru,tv,gv,em,aa,i1,i2,[bf,ib,jb],i4,i5,i6];exact⟨k1,k2,dm,fm,Z,ru,tv,gv,O _ (by simp) _ em,aa,i1.mono t,i2.mono t,⟨bf,O _ (by simp) _ ib,λz hz=>(jb z hz).mono t⟩,O _ (by simp) _ i4,i5.mono t,i6.mono t⟩
def lR.there {g:Gc}{s:Gs}(h:lR C CM H g s):∀b∈plc g s,∃ob,H b=u_ ob:=by
 erw[h,dx,fs,mv,av,rv,ev,e,f,i,j,k,l];intro b O;rcases Aa.mp O with rfl|O
 ·exact[_:e]
 ·cases U:s.run with
  |none=>rw[U] at O;cases O
  |some q=>
   erw[q,mc,r];rw[U] at O k;erw[k,k1,k2,dm,fm,Z,ru,tv,gv,em,aa,i1,i2,[bf,ib,jb],i4,i5,i6];simp![NV,uG,uH,uO] at O;rcases O with rfl|rfl|rfl
   ·exact[_:em]
   ·exact[_:ib]
   ·exact[_:i4]
def Ea {g:Gc}{d:D}{s s':Gs}{p:Gp}(b:IS H g d s s')(h:mV g s p)(U:p.run=US)(he:p.en=US):mV g s' (me p d)/\∀c∈plc g s',c=g.x∨H c=none:=by
 have hr:=h.none U;have Z:s.en= .non:=by rw[h.en,he];rfl
 have nil:s'.run=US->∀c∈plc g s',c=g.x∨H c=none:=λe c O=>by
  unfold plc at O;rw[e] at O;rcases Aa.mp O with z|z
  ·exact .inl z
  ·cases z
 unfold me;by_cases c:d= .non
 ·erw[b.lack c,b1,b2];rw[A6 (by rw[c];rfl)]
  exact⟨⟨h.n,b.mb.trans h.mb,b.ra.trans h.ra,(by show _=p.run;rw[b1,U];rfl),(λmc r e=>by rw[b1] at e;cases e),b2⟩,nil b1⟩
 ·rw[A4 (λz=>c (by cases d with|non=>rfl|_=>cases z))]
  cases hd:QI d with
  |none=>
   erw[b.rule c hd,b1,b2];exact⟨⟨h.n,b.mb.trans h.mb,b.ra.trans h.ra,(by show _=p.run;rw[b1,U];rfl),(λmc r e=>by rw[b1] at e;cases e),b2⟩,nil b1⟩
  |some rs=>
   erw[b.go rs hd,mc,c1,c2,c3,c4,c5,c6,c7];exists ⟨h.n,b.mb.trans h.mb,b.ra.trans h.ra,?_,λaa r e=>?_,?_⟩,λc O=>?_
   ·rw[c6];show u_ (mc.rs,R0 rs g.n)=u_ (rs,R0 rs p.n);rw[c4,h.n]
   ·rw[c6] at e;cases e;exact c5
   ·rw[c7,h.n,Z];show _=(lC (R0 rs p.n)).getD .non;unfold lC;split<;>rfl
   ·unfold plc at O;rw[c6] at O;simp![NV,uG,uH,uO] at O;rcases O with z|rfl|rfl|rfl
    ·exact .inl z
    ·exact .inr c1
    ·exact .inr c2
    ·exact .inr c3
nonrec def Yr:om (oj Rw×Rn)->oj D
 |none=> []
 |some (_,r)=>r.gs
nonrec def JX (p:Gp):D:= .tup [.tup (p.ra++Yr p.run),p.en.getD .non]
def AA {g:Gc}{s:Gs}{p:Gp}(h:mV g s p):IJ s=JX p:=by
 unfold IJ JX;rw[h.ra,h.en];have e:OG s.run=Yr p.run:=by
  rw[<-h.run];cases s.run with
  |none=>rfl
  |some q=>rfl
 rw[e]
def II {p:Gp}(h:GI p):↑p.ra+↑(Yr p.run)<=1000:=by
 have h1:=h.ra.2.2;cases O:p.run with
 |none=>show _+0<=1000;omega
 |some q=>
  erw[q,rs,r];have h2:=(h.run rs r O).2.1;have h3:=h2.gs.2.2;have h4:=h2.n;show _+↑r.gs<=1000;omega
inductive EE (CO CP CG CM:Addr):Sp
 |mk (o:Oc)(m:Str)(qs:List (Str×D))(xs:List V)(uk:List (Key×V))(p:Gp)(_:vs= [.ref o.x,.str m])(_:OAt CO CP H o qs)(_:ye qs)(_:H o.ls=u_ (.lst xs))(_:↑xs<=100000)(_:H o.du=u_ (.dK uk))(_:↑uk<=100000)(_:g0D m (qS qs m)=u_ p)(_:∀(g:Gc)(s:Gs)(H':Hp),Kp [o.ls,o.du] H H'->H' o.ls=u_ (.lst (xs++ [.ref g.x]))->H' o.du=u_ (.dK (lD uk (UV m) (.bl v_)))->lR CG CM H' g s->mV g s p->g.o=o.x->(∀b∈plc g s,H b=US)->Q .non H')
inductive BV (CO CP CG CM:Addr):Sp
 |mk (o:Oc)(qs:List (Str×D))(g:Gc)(s:Gs)(p:Gp)(rk fk:List (Key×V))(_:vs= [.ref o.x,.ref g.x])(_:OAt CO CP H o qs)(_:lR CG CM H g s)(_:mV g s p)(_:GI p)(_:p.en.isSome=v_)(_:H o.dr=u_ (.dK rk))(_:↑rk<=100000)(_:H o.df=u_ (.dK fk))(_:↑fk<=100000)(_:o.dr≠o.df)(_:o.dr∉plc g s)(_:o.df∉plc g s)(_:∀(v1 v2:V)(H':Hp),Kp [o.dr,o.df] H H'->H' o.dr=u_ (.dK (lD rk (UV g.n) v1))->Is H' (JX p) v1->H' o.df=u_ (.dK (lD fk (UV g.n) v2))->Is H' (Yo (p.en.getD .non)) v2->Q .non H')
def Id:#[C,12,a.YX,a.YW,["self","name"],(EE a.qo a.qE a.qK a.qm)]:=by
 have qL:=#[yP,T];have O:=#[Ia,T,C];exists 9,T.iF,xD
 erw[h,o,m,qs,xs,uk,p,rfl,hO,hq,U,ap,Z,aq,hp,k];have hs:=uD;exists 3,%[#[qZ,#[jY,vc,vL,vM,jc,#[qO,5,pv 0,rfl],#v[#[wK,T.M_Going,O,T.m_Going,T.ml,qz,#v[pv 1,#[Qg,#[qO,5,pv 0,rfl],T.QS,T.ii,qL,#v[pv 1]],pv 0]]]]]|#[Jp,#[qO,5,pv 0,rfl],pv 1,jw]]
 exists 0,o.x,_,o.dx,_,0,hO.e,T.qx,T.QB,Ik o,.inl [1:_:SqL.of U]
 exists 0,0,o.x,_,o.dx,_,0,hO.e,T.qx,T.qX,Il o;erw[id hO.p,ak,dp,op,au,hx,hd,hk,hv]
 exists o.px,ak,0,hx,yp,0,o.px,m,qs,1,hO.p,λsv h1 h2=>?_;have hm:m∈qs.map (·.1):=(QZ qs).gn m p hp;have af:=h1 hm;erw[JG hq hm,hn,kk,e,al,g1,g2];rw[al] at af hp
 exists 0,λx dx aa ag nx=>?_;have s0:ic H (upd (upd H dx (.own x)) x (.ins a.qK dx [])):=λb o h=>by rwa[qk (ql h aa),qk (ql h ag)]
 have nox:o.x≠x:=ql hO.e aa
 exists x,dx,o.x,m,kk,sv,e,1,qg,af.mono s0.tk,hn,nox,⟨_,_,s0 _ _ hO.e,wV o _ ()⟩,λH1 s1 am aw G1 b1 b2=>[1:?_]
 have ac:ic H H1:=λb ob h=>am b ob (s0 b ob h) (ql h aa);have rel:mV ⟨x,o.x,m⟩ s1 p/\∀c∈plc ⟨x,o.x,m⟩ s1,H c=none:=by
  unfold g0D at hp;simp only at hp;split at hp
  ·cases hp
  ·split at hp
   ·rename_i c
    cases hp;have e1:=b1 c;rw[e1]
    exists ⟨1,1,1,1,(λ_ _ z=>by cases z),1⟩,λc hc=>?_
    rcases Aa.mp hc with rfl|hc
    ·exact aa
    ·cases hc
   ·rename_i c
    cases hp;obtain⟨r1,r2⟩:=Ea (p:=⟨m,.non,[],US,US⟩) (b2 c) ⟨1,1,1,1,(λ_ _ z=>by cases z),1⟩ rfl rfl
    exists r1,λc hc=>?_;rcases r2 c hc with rfl|hc
    ·exact aa
    ·exact s0.free hc
 exists o.ls,xs,0,1,ac _ _ U,()
 have ah:Kp [o.ls,o.du] H1 (upd H1 o.ls (.lst (xs++ [.ref x]))):=⟨λb ob h n=>by rw[qk (λz=>n (by rw[z];exact ui))];exact h,iR.tk (p:=o.ls) (λb ob h n=>by rwa[qk n]) (ac _ _ U) qg⟩
 have n1:o.du≠o.ls:=λz=>by rw[z,U] at Z;cases Z
 have ad:upd H1 o.ls (.lst (xs++ [.ref x])) o.du=u_ (.dK uk):=by rw[qk n1];exact ac _ _ Z
 have n2:o.x≠o.ls:=λz=>by have:=hO.e;rw[z,U] at this;cases this
 have n3:o.x≠o.du:=λz=>by have:=hO.e;rw[z,Z] at this;cases this
 exists 0,o.x,_,o.dx,_,0,(by rw[qk n2];exact ac _ _ hO.e),T.qx,T.Qw,MQ o,0,o.du,0,Eg.k (k:=UV m) ad ()
 have ao:=((Kp.of (L:= [o.ls,o.du]) ac).trans ah).trans (Kp.updD (ys:=lD uk (UV m) (.bl v_)) ad (uh _ ui));refine k [x:o.x:m] s1 _ ao (by rw[qk n1.symm];exact qg) qg (G1.frame (λb hb ob h=>?_) ((ah.trans (Kp.updD (ys:=lD uk (UV m) (.bl v_)) ad (uh _ ui)))).tk) rel.1 rfl rel.2
 have ae:=rel.2 b hb;have m1:b≠o.ls:=λz=>by rw[z,U] at ae;cases ae
 have m2:b≠o.du:=λz=>by rw[z,Z] at ae;cases ae
 rw[qk m2,qk m1];exact h
def CD:#[T,3,a.YM,a.YK,["self","going"],(BV a.qo a.qE a.qK a.qm)]:=by
 have O:=#[MJ,T];have U:=#[Ij,T];have XE:=#[E8,T];exists 9,T.iO,JZ
 erw[h,o,qs,g,st,p,rk,fk,rfl,hO,hG,hR,hI,ae,ac,ay,af,aA,ag,nr,nf,k];have hs:=uD;exists 3,%[#[Jp,#[qO,5,pv 0,rfl],#[qO,5,pv 1,rfl],#[QA,pv 1,T.qR,T.mn,O]],#[Jp,#[qO,5,pv 0,rfl],#[qO,5,pv 1,rfl],#[qu,U,hr.mono (),T.mG,#v[#[qO,5,pv 1,rfl]]]]|#[qZ,#[Qg,pv 0,T.qx,T.iX,XE,#v[pv 1]]]]
 erw[id hG,dx,fs,mv,av,rv,ev,e,f,i,j,aB,l];have aw:o.dr≠g.x:=λz=>nr (by rw[z];exact ui)
 have aC:o.df≠g.x:=λz=>nf (by rw[z];exact ui)
 have ah:o.x≠o.dr:=λz=>by have:=hO.e;rw[z,ac] at this;cases this
 have ak:o.x≠o.df:=λz=>by have:=hO.e;rw[z,af] at this;cases this
 have al:↑(OG st.run)=↑(Yr p.run):=by
  have:=AA hR;unfold IJ JX at this;simp![D.tup.injEq,UF] at this;have:=this.1;rw[hR.ra] at this;rw[List.append_cancel_left this]
 exists 0,g.x,dx,fs,1,e,f.meth _ (),g,st,1,hG,(by rw[hR.ra,al];exact II hI),λv1 H1 s1 i1=>?_
 rw[AA hR] at i1
 exists 0,o.x,_,o.dx,_,0,s1 _ _ hO.e,T.qx,T.QX,O8 o,0,g.x,_,dx,fs,0,s1 _ _ e,T.qR,T.Yc,f.zC,o.dr,0,Eg.k (k:=UV g.n) (s1 _ _ ac) ()
 have ad:Kp [o.dr,o.df] H (upd H1 o.dr (.dK (lD rk (UV g.n) v1))):=(Kp.of s1).trans (Kp.updD (s1 _ _ ac) ui);generalize Z:upd H1 o.dr (.dK (lD rk (UV g.n) v1))=H2 at ad⊢;have am:H2 o.dr=u_ (.dK (lD rk (UV g.n) v1)):=by rw[<-Z];exact qg
 have e2:H2 g.x=u_ (.ins a.qK dx fs):=by rw[<-Z,qk aw.symm];exact s1 _ _ e
 have ao:H2 o.x=u_ (.ins a.qo o.dx (ofs o)):=by rw[<-Z,qk ah];exact s1 _ _ hO.e
 have aa:H2 o.df=u_ (.dK fk):=by rw[<-Z,qk ag.symm];exact s1 _ _ af
 have i2:Is H2 (JX p) v1:=i1.mono (by rw[<-Z];exact Tk.updD (s1 _ _ ac))
 have l2:Is H2 (p.en.getD .non) ev:=by rw[<-hR.en];exact l.mono ad.tk
 obtain⟨kk,ee,ap⟩:∃kk ee,p.en.getD .non= .tup [.str kk,ee]:=by
  cases aq:p.en with
  |none=>rw[aq] at ae;cases ae
  |some d=>
   rcases hI.en d aq with⟨z,rfl⟩|⟨x,rfl,_⟩|⟨z,rfl⟩
   ·exact[_:0]
   ·exact[_:0]
   ·exact[_:0]
 exists 0,g.x,_,dx,fs,0,e2,T.qR,T.Q2,f.f_end,ev,kk,ee,1,(by rwa[<-ap]),λv2 H3 s3 i3=>?_
 rw[<-ap] at i3
 exists 0,o.x,_,o.dx,_,0,s3 _ _ ao,T.qx,T.Qy,Im o,0,g.x,_,dx,fs,0,s3 _ _ e2,T.qR,T.Yc,f.zC,o.df,0,Eg.k (k:=UV g.n) (s3 _ _ aa) ()
 have au:Tk H3 (upd H3 o.df (.dK (lD fk (UV g.n) v2))):=Tk.updD (s3 _ _ aa);have ax:Kp [o.dr,o.df] H (upd H3 o.df (.dK (lD fk (UV g.n) v2))):=(ad.trans (Kp.of s3)).trans (Kp.updD (s3 _ _ aa) (uh _ ui))
 exists 0,o.x,o.dx,0,(by rw[qk ak];exact s3 _ _ ao),wV o _ (),0,_,0
 exact k v1 v2 _ ax (by rw[qk ag];exact s3 _ _ am) (i2.mono (s3.tk.trans au)) qg (i3.mono au)
end
variable {v:V}
def nX:Vg ("looked_up":Str) [(("by_name":Str),v)]=none:=by rfl
def AaT (k:Str):inV (V.str k) [V.str "has",V.str "names"]=ph k:=by
 have h:=zk k ["has","names"];refine h.trans ?_;unfold ph;rw[<-Bool.decide_or,uX];simp
section
variable {C CM CO:o3}{H:Hp}{g:Gc}{s:Gs}{p:Gp}{Q:VK}{E:XK}
def Lc (G:lR C CM H g s)(R:mV g s p)(I:GI p)(O:p.en=US)(U:yb p=u_ m)(k:∀kd v H',ic H H'->ph kd=UT->Is H' (.tup [.str kd,.str m]) v->Q v H'):XH C CM [.ref g.x] H Q E:=by
 erw[Wi I O U,hn,h];exists g,s,1,G;rcases h with⟨h1,h2⟩|⟨rs,r,h1,h2⟩
 ·exact .inl ⟨R.none h1,m,by rw[R.mb,h2],λv H' s' i=>k _ v H' s' () i⟩
 ·erw[R.some h1,mc,Z,e2,e3];exact .inr ⟨mc,r,_,Z,h2,λv i=>k _ v H (ic.refl _) () i⟩
def Em (G:lR C CM H g s)(R:mV g s p)(I:GI p)(O:p.en=US)(U:yb p=US)(k:∀rs r kd z v,p.run=u_ (rs,r)->r.th= .tup [.str "asks",.tup [.str kd,.str z]]->ph kd=v_->isT (.str z)=v_->mW qs p=Q3 p (X5 qs kd z)->Is H (.tup [.str kd,.str z]) v->Q v H):XH C CM [.ref g.x] H Q E:=by
 erw[Zj (qs:=qs) I O U,rs,r,kd,z,h1,h2,h3,h4,h5];erw[R.some h1,mc,Z,e2,e3];exact⟨g,s,1,G,.inr ⟨mc,r,_,Z,h2,λv i=>k rs r kd z v h1 h2 h3 h4 h5 i⟩⟩
def BI (G:lR C CM H g s)(R:mV g s p)(I:GI p)(Z:p.en=US){d:D}{v:V}(hv:Is H d v)(U:∀rs r,p.run=u_ (rs,r)->∃u q,r.th= .tup [.str "asks",.tup [.str u,q]]/\AQ u d=v_)(aa:g.o≠g.x)(ho:∃dx fs,H g.o=u_ (.ins CO dx fs)/\fs.lookup ("runner":Str)=US)
  (k:∀H' s',Gw g s.run H H'->lR C CM H' g s'->mV g s' (Q3 p d)->(∀b∈plc g s',b∈plc g s∨H b=US)->Q .non H'):xV C CM CO [.ref g.x,v] H Q E:=by
 refine⟨g,s,v,d,1,G,by rw[R.n];exact I.n,hv,aa,ho,?_⟩
 cases O:p.run with
 |none=>
  erw[I.no O Z,z,hz,_];have hr:=R.none O;refine .inl ⟨hr,z,by rw[R.mb,hz],λH' s' w G' b=>?_⟩
  obtain⟨r1,r2⟩:=Ea (p:=⟨p.n,p.mb,[.tup [.tup [.str "rule",p.mb],d]],US,US⟩) b ⟨R.n,R.mb,(by show _= [D.tup [.tup [.str "rule",p.mb],d]];rw[hz]),(by show s.run.map _=US;rw[hr];rfl),R.own,(by show s.en= .non;rw[R.en,Z];rfl)⟩ rfl rfl
  refine k H' s' w G' ?_ λc hc=>?_
  ·have:Q3 p d=me ⟨p.n,p.mb,[.tup [.tup [.str "rule",p.mb],d]],US,US⟩ d:=by
    unfold Q3;rw[O];show me ⟨p.n,p.mb,_,US,p.en⟩ d=_;rw[Z]
   rwa[this]
  ·rcases r2 c hc with rfl|h
   ·exact .inl ui
   ·exact .inr h
 |some q=>
  erw[q,rs,r];erw[R.some O,mc,e1,e2,e3];erw[I.run rs r O,k1,k2,k3,k4];erw[U rs r O,u,q,h1,h2];subst e2;refine .inr ⟨mc,r,u,q,e1,e3,k1,k2,h1,h2,λH' w G'=>?_⟩;have ee:Q3 p d={p with run:=u_ (mc.rs,mt mc.rs p.n r d),en:=lC (mt mc.rs p.n r d)}:=by unfold Q3;rw[O]
  refine k H' _ w G' ?_ ?_
  ·rw[ee,e3,R.n];unfold nZ lC;by_cases c:QJ (mt mc.rs p.n r d).th=v_
   ·rw[A6 c,A6 c];exact⟨R.n,R.mb,R.ra,1,(λac r' z=>by cases z;exact e3),(by show s.en= .non;rw[R.en,Z];rfl)⟩
   ·rw[A4 c,A4 c];exact⟨R.n,R.mb,R.ra,1,(λac r' z=>by cases z;exact e3),1⟩
  ·intro b hb;left;unfold plc at hb⊢;rw[e1];unfold nZ at hb;split at hb<;>exact hb
end
nonrec def LO (o:Oc):oj o3:= [o.ls,o.du,o.dr,o.df]
structure Bs (CO CP:o3)(H0:Hp)(o:Oc)(qs:oj (Str×D)):Prop where
 oa:OAt CO CP H0 o qs
 ls:∃xs,H0 o.ls=u_ (.lst xs)
 du:∃xs,H0 o.du=u_ (.dK xs)
 dr:∃xs,H0 o.dr=u_ (.dK xs)
 df:∃xs,H0 o.df=u_ (.dK xs)
 nd:(LO o).Nodup
 q:ye qs
section
variable {CO CP:o3}{H0 H H':Hp}{o:Oc}{qs:oj (Str×D)}
def Bs.at (b:Bs CO CP H0 o qs)(k:Kp (LO o) H0 H):OAt CO CP H o qs:=b.oa.kp k (by
 intro p O;simp![LO,uG,uH,uO] at O;rcases O with rfl|rfl|rfl|rfl
 ·exact .inl b.ls
 ·exact .inr (.inl b.du)
 ·exact .inr (.inl b.dr)
 ·exact .inr (.inl b.df))
def Bs.new (b:Bs CO CP H0 o qs){c:o3}(h:H0 c=US):c≠o.x/\c≠o.ls/\c≠o.du/\c≠o.dr/\c≠o.df:=by
 erw[b.ls,_,h1];erw[b.du,_,h2];erw[b.dr,_,h3];erw[b.df,_,h4];exact⟨(ql b.oa.e h).symm,(ql h1 h).symm,(ql h2 h).symm,(ql h3 h).symm,(ql h4 h).symm⟩
def Bs.nlo (b:Bs CO CP H0 o qs){c:o3}(h:H0 c=US):c∉LO o:=by
 erw[b.new h,_,h1,h2,h3,h4];simp![LO,uG,uH,uO,UR];exact⟨h1,h2,h3,h4⟩
def pX (b:Bs CO CP H0 o qs)(k:Kp (LO o) H0 H)(h:∀c ob,H c=u_ ob->c∉o.df::L->H' c=u_ ob)(t:Tk H H')(O:∀c∈L,H0 c=US):Kp (LO o) H0 H':=⟨λc ob e n=>h c ob (k.kept c ob e n) (λz=>by
 rcases Aa.mp z with rfl|z
 ·exact n (by simp[LO])
 ·rw[O c z] at e;cases e),k.tk.trans t⟩
end
section
variable {qs:oj (Str×D)}{n:Str}{p:Gp}{r don:oj (Str×Gp)}
def MV (U:p.en=US)(Z:yb p=US):Sy.nxt #[Y,(n,p)::r,don]=[(n,mW qs p)::r:don]:=by
 have hf:(SyP qs).fin p=false:=by show p.en.isSome=UT;rw[U];rfl
 have O:(SyP qs).want p=none:=Z;unfold Sy.nxt;simp only;rw[hf,A4 uc,O]
 rfl
def O9 (U:p.en=US)(Z:yb p=u_ m){a:om D}(hy:Sy.yet #[Y,(n,p)::r,don] m=u_ (u_ a)):Sy.nxt #[Y,(n,p)::r,don]=[(n,Q3 p (a.getD .non))::r:don]:=by
 have hf:(SyP qs).fin p=false:=by show p.en.isSome=UT;rw[U];rfl
 have O:(SyP qs).want p=u_ m:=Z;unfold Sy.nxt;simp only;rw[hf,A4 uc,O];simp only;rw[hy]
 rfl
def MT (U:p.en=US)(Z:yb p=u_ m)(hy:Sy.yet #[Y,(n,p)::r,don] m=u_ US):Sy.nxt #[Y,(n,p)::r,don]=[(n,Ei p m)::r:don]:=by
 have hf:(SyP qs).fin p=false:=by show p.en.isSome=UT;rw[U];rfl
 have O:(SyP qs).want p=u_ m:=Z;unfold Sy.nxt;simp only;rw[hf,A4 uc,O];simp only;rw[hy]
 rfl
def Io (Z:p.en=US)(hw:yb p=u_ m)(U:Sy.yet #[Y,(n,p)::r,don] m=US):∃p',g0D m (qS qs m)=u_ p'/\Sy.nxt #[Y,(n,p)::r,don]=[(m,p')::(n,p)::r:don]:=by
 have hf:(SyP qs).fin p=false:=by show p.en.isSome=UT;rw[Z];rfl
 have O:(SyP qs).want p=u_ m:=hw;erw[Sy.XC U,_,[p',e],_];exists p',e;unfold Sy.nxt;simp only;rw[hf,A4 uc,O];simp only;rw[U];simp only;rw[e]
def MU {d:D}(O:p.en=u_ d):Sy.nxt #[Y,(n,p)::r,don]=[r:don++ [(n,p)]]:=by
 have U:(SyP qs).fin p=true:=by show p.en.isSome=v_;rw[O];rfl
 unfold Sy.nxt;simp only;rw[U,A6 rfl]
 rfl
end
def Bw {d:D}(h:zl d):AQ "thing" d=true:=by
 unfold AQ;rcases h with rfl|h
 ·rfl
 ·cases hn:Yz d with
  |true=>rfl
  |false=>
   rw[A4 uc,A6 h,A4 ()]
   rfl
structure Rnd {qs:oj (Str×D)}(CG CM:o3)(H0 H H1:Hp)(o:Oc)(S:Sy.Ss (SyP qs))(L0:oj o3)(g:Gc)(s1:Gs)(n:Str)(p1:Gp)(r:oj (Str×Gp))(fk1:oj (Key×V))(top:Nat):Prop where
 st:∃j,#[Y,(n,p1)::r,S.don]=Sy.nx S j
 len:↑fk1+Sy.mu #[Y,(n,p1)::r,S.don]<=top
 kp:∀b ob,H b=u_ ob->b∉o.df::L0->H1 b=u_ ob
 tk:Tk H H1
 df:H1 o.df=u_ (.dK fk1)
 fd:BA H1 S fk1
 go:lR CG CM H1 g s1
 rel:mV g s1 p1
 pl:∀b∈plc g s1,b∈L0∨H b=US/\H0 b=US
 gi:SGI #[Y,(n,p1)::r,S.don]
inductive Ow (CO CP CG CM:Addr):Sp
 |mk (H0:Hp)(o:Oc)(qs:List (Str×D))(g:Gc)(s:Gs)(n:Str)(p:Gp)(r don:List (Str×Gp))(uk fk:List (Key×V))(top:Nat)(_:vs= [.ref o.x,.ref g.x])(_:Bs CO CP H0 o qs)(_:Kp (LO o) H0 H)(_:H o.du=u_ (.dK uk))(_:NH #[Y,(n,p)::r,don] uk)(_:(∀q∈don,q.2.en.isSome=v_))(_:top<=100000)(_:g.o=o.x)(_:(∀b∈plc g s,H0 b=US))(_:Rnd CG CM H0 H H o #[Y,(n,p)::r,don] (plc g s) g s n p r fk top)(_:∀(v:V)(H':Hp)(s':Gs)(p':Gp)(fk':List (Key×V)),Rnd CG CM H0 H H' o #[Y,(n,p)::r,don] (plc g s) g s' n p' r fk' top->((v= .non/\p'.en.isSome=v_)∨∃m,v= .str m/\p'.en=US/\yb p'=u_ m/\Sy.yet #[Y,(n,p')::r,don] m=US)->Q v H')
def Rnd.more {qs:oj (Str×D)}{CG CM CO CP:o3}{H0 H H1 H2 H3:Hp}{o:Oc}{S:Sy.Ss (SyP qs)}{L0:oj o3}{g:Gc}{s1 s3:Gs}{n:Str}{p1 p3:Gp}{r:oj (Str×Gp)}{fk1 U:oj (Key×V)}{top:Nat}(b:Bs CO CP H0 o qs)(k0:Kp (LO o) H0 H)(hL:∀b∈L0,H0 b=US)(h:Rnd CG CM H0 H H1 o S L0 g s1 n p1 r fk1 top)(k2:Kp [o.df] H1 H2)(f2:H2 o.df=u_ (.dK U))(d2:BA H2 S U)(l2:↑U<=↑fk1+1)
  (ac:∀b ob,H2 b=u_ ob->b∉plc g s1->H3 b=u_ ob) (t3:Tk H2 H3) (G3:lR CG CM H3 g s3) (R3:mV g s3 p3) (ae:∀b∈plc g s3,b∈plc g s1∨H2 b=US) (e:Sy.nxt #[Y,(n,p1)::r,S.don]=[(n,p3)::r:S.don]):
  Rnd CG CM H0 H H3 o S L0 g s3 n p3 r U top/\Sy.mu #[Y,(n,p3)::r,S.don]<Sy.mu #[Y,(n,p1)::r,S.don]:=by
 have ad:=Sy.nxt_mu (QZ qs) (S:=#[Y,(n,p1)::r,S.don]) (by intro z;cases z)
 rw[e] at ad;have af:∀b∈plc g s1,H0 b=none:=λb hb=>(h.pl b hb).elim (hL b) (·.2);have nf:o.df∉plc g s1:=λz=>(b.new (af _ z)).2.2.2.2 rfl;have ag:∀b ob,H1 b=u_ ob->b∉o.df::plc g s1->H3 b=u_ ob:=λc ob q z=>ac c ob (k2.kept c ob q (λy=>z (by rw[Ab.mp y];exact ui))) (λy=>z (uh _ y))
 refine⟨⟨?_,by have:=h.len;omega,λc ob q z=>?_,(h.tk.trans k2.tk).trans t3,ac _ _ f2 nf,d2.mono t3,G3,R3,λc Z=>?_,?_⟩,ad⟩
 ·erw[h.st,j,hj];exact⟨j+1,by show _=Sy.nxt (Sy.nx S j);rw[<-hj,e]⟩
 ·refine ag c ob (h.kp c ob q z) λy=>?_;rcases Aa.mp y with rfl|y
  ·exact z ui
  ·rcases h.pl c y with y|⟨y,_⟩
   ·exact z (uh _ y)
   ·rw[q] at y;cases y
 ·rcases ae c Z with Z|Z
  ·exact h.pl c Z
  ·have O:H1 c=none:=by
    cases hq:H1 c with
    |none=>rfl
    |some ob=>
     by_cases y:c=o.df
     ·rw[y,f2] at Z;cases Z
     ·rw[k2.kept c ob hq (λz=>y (Ab.mp z))] at Z;cases Z
   by_cases c0:c∈L0
   ·exact .inl c0
   ·right;have aa:H c=none:=by
     cases hq:H c with
     |none=>rfl
     |some ob=>
      by_cases y:c=o.df
      ·rw[y,h.df] at O;cases O
      ·rw[h.kp c ob hq (λz=>by rcases Aa.mp z with z|z;exact y z;exact c0 z)] at O;cases O
    exists aa;cases hq:H0 c with
    |none=>rfl
    |some ob=>
     by_cases y:c∈LO o
     ·have:=pX b k0 h.kp h.tk hL;simp![LO,uG,uH,uO] at y;have keep:∀x,(∃xs,H0 x=u_ (.lst xs))∨(∃xs,H0 x=u_ (.dK xs))->H1 x≠none:=λx hx hn=>by
       rcases hx with⟨xs,hx⟩|⟨xs,hx⟩
       ·erw[this.tk.lst x xs hx,ys,hy];rw[hy] at hn;cases hn
       ·erw[this.tk.dct x xs hx,ys,hy];rw[hy] at hn;cases hn
      rcases y with rfl|rfl|rfl|rfl
      ·exact A8 O (keep _ (.inl b.ls))
      ·exact A8 O (keep _ (.inr b.du))
      ·exact A8 O (keep _ (.inr b.dr))
      ·exact A8 O (keep _ (.inr b.df))
     ·rw[k0.kept c ob hq y] at aa;cases aa
 ·have:=C0 b.q h.gi;rwa[e] at this
section
variable {P:o9}{w:og}{K:o0}{mg:Str->om o6}{base:o8}{a:Ad}{g:Ga}
def O4:#[C,11,a.YS,a.YU,["self","going"],(Ow a.qo a.qE a.qK a.qm)]:=by
 have wS:=#[CB,T];have JH:=#[Fr,T,C];have yg:=#[nT,T];have QQ:=#[Kr,T];exists 9,T.iY,yk
 erw[h,H0,o,qs,Z,st,n,p,r,don,uk,fk,top,rfl,hB,hK,aK,hU,ap,aX,aq,hL,h0,k];have hs:=uD;exists 3,%[#[xZ,#[qr,yL,#[qO,5,pv 1,rfl],qP],%[#[qC,(2),yk.nd,#[QA,pv 1,T.qR,T.lU,wS]],#[qG,#[qr,8,QT,#[qI,qF,pv 2,qh],#[qB,#v[qj,qj]],#[w]],%[#[qZ,#[Qg,pv 1,T.qR,T.iU,JH,#v[#[Qg,#[qO,5,pv 0,rfl],T.QS,T.iC,yg,#v[pv 2]]]]]|pG],qw],#[qC,(3),yk.nd,#[Qg,pv 0,T.qx,T.iq,QQ,#v[#[qI,qF,pv 2,qh]]]],#[qG,#[qr,yL,pv 3,qP],%[|#[qp,#[qI,qF,pv 2,qh]]],qw]|#[qG,#[qr,Qq,#[qI,qF,pv 3,qh],qj],%[|#[qZ,#[Qg,pv 1,T.qR,T.iU,JH,#v[#[qI,qF,pv 3,qh]]]]],%[|#[qG,#[qr,Qq,#[qI,qF,pv 3,qh],qj],%[|#[qZ,#[Qg,pv 1,T.qR,T.iU,JH,#v[qP]]]],%[|#[Qc,8,pv 1,#[qB,#v[qj,#[qI,qF,pv 2,qh]]],rfl]]]]]]]|#[qp,qP]]
 let J_:Nat->L2.St->Hp->Prop:=λmm σ H1=>∃(s1:Gs) (p1:Gp) (fk1:oj (Key×V)) (u3 u4:om V),σ= [u_ (.ref o.x),u_ (.ref Z.x),u3,u4]/\mm=Sy.mu #[Y,(n,p1)::r,don]/\Rnd a.qK a.qm H0 H H1 o #[Y,(n,p)::r,don] (plc Z st) Z s1 n p1 r fk1 top
 exists J_,⟨_,st,p,fk,US,US,1,1,h0⟩;rintro mm σ H1 ⟨s1,p1,fk1,u3,u4,rfl,rfl,O⟩;have aL:=pX hB hK O.kp O.tk hL;have aa:=hB.at aL;have au:∀b∈plc Z s1,H0 b=none:=λb hb=>(O.pl b hb).elim (hL b) (·.2);erw[O.gi (n,p1) (.inl ui),hI,aZ];have hI:GI p1:=hI;have aw:H1 o.du=u_ (.dK uk):=O.kp _ _ aK (λz=>by
  rcases Aa.mp z with z|z
  ·have:=hB.nd;simp[LO] at this;exact this.2.1.2 z
  ·exact(hB.new (hL _ z)).2.2.1 rfl)
 erw[id O.go,dx,fs,mv,av,rv,ev,e,f,i,j,a1,l];have a2:↑fs<1000:=by have:=f.len;omega
 exists 0,Z.x,_,dx,fs,0,e,T.qR,T.Q2,f.f_end,1,0;cases he:p1.en with
 |some d=>
  have l':Is H1 d ev:=by have:=l;rwa[O.rel.en,he] at this
  have aM:d≠ .non:=by rcases hI.en d he with⟨z,rfl⟩|⟨x,rfl,_⟩|⟨z,rfl⟩<;>(intro z;cases z)
  refine lr (uf (JC l' aM)) ?_;exact k _ H1 s1 p1 fk1 O (.inl ⟨1,by rw[he];rfl⟩)
 |none=>
  have l':Is H1 .non ev:=by have:=l;rwa[O.rel.en,he] at this
  cases(show ev= .non from l')
  refine lP (ud rfl) ?_
  exists λσ' H'=>∃m',m'<Sy.mu #[Y,(n,p1)::r,don]/\J_ m' σ' H',λ_ _ h=>h;exists 8,B1,b1;have ax:Z.o≠Z.x:=by rw[aq];exact(hB.new (hL _ ui)).1.symm
  have ak:∀H2:Hp,(∀b ob,H1 b=u_ ob->b∉o.df::plc Z s1->H2 b=u_ ob)->∃dx fs,H2 Z.o=u_ (.ins a.qo dx fs)/\fs.lookup ("runner":Str)=none:=λH2 h2=>⟨_,_,(by rw[aq];exact h2 _ _ aa.e (λz=>by
   rcases Aa.mp z with z|z
   ·have:=aa.e;rw[z,O.df] at this;cases this
   ·exact(hB.new (au _ z)).1 rfl)),wV o _ ()⟩
  cases hw:yb p1 with
  |none=>
   exists 0,Z.x,dx,fs,1,e,f.meth _ ()
   refine Em (E:=E0) (qs:=qs) O.go O.rel hI he hw λrs rr kd z v ay al ac hz aA hv=>b1 _ _ ?_;exists 8,B2,b2;erw[id hv,q,ws,rfl,hq,w1,r1,rfl,[rfl,aN],w2,r2,rfl,[rfl,aB],h3];cases(show r2= [] from h3)
   exists 0,q,_,_,0,1,SqT.of hq,1,(sml rfl),λt ht=>?_;have s2:=qf ht (.tup [V.str "has",V.str "names"])
   exists t,0,.inr (SqT.of qg),1,1,0;refine lP ((AaT kd).trans ac) ?_;erw[id aa.p,aO,dp,op,a3,hx,hd,hk,a4];have a5:↑z<=300:=by
    have:=QY hz;simp![iL,Qs,uC,uZ] at this;exact this.1
   erw[pT hB.q z ac,a6,aP];generalize a7:upd H1 t (.tup [V.str "has",V.str "names"])=H2 at s2⊢;have fin:∀(u:V) (H3:Hp),ic H2 H3->Is H3 (X5 qs kd z) u->xV a.qK a.qm a.qo [.ref Z.x,u] H3 (λ_ H4=>∃m',m'<Sy.mu #[Y,(n,p1)::r,don]/\J_ m' [u_ (.ref o.x),u_ (.ref Z.x),u_ (.ref q),u4] H4) E0:=λu H3 s3 hu=>by
    have U:=s2.trans s3;refine BI (O.go.same U) O.rel hI he hu (λaQ r' e'=>?_) ax (ak H3 λb ob h _=>U b ob h) λH4 s4 w4 G4 R4 aR=>?_
    ·rw[ay] at e';cases e';exact⟨kd,_,al,aP⟩
    ·rw[<-aA] at R4;have kq:∀b ob,H3 b=u_ ob->b∉plc Z s1->H4 b=u_ ob:=λb ob h n=>w4.kept b ob h (λy=>n (by rw[y];exact ui)) (λmc r' y=>by
      unfold plc at n;rw[y] at n;simp![NV,uG,uH,uO,UR] at n;exact[n.2.1:n.2.2.1:n.2.2.2])
     erw[O.more hB hK hL (Kp.of U) (U _ _ O.df) (O.fd.mono U.tk) (GT _) kq w4.tk G4 R4 aR (MV he hw),m1,m2];exact⟨_,m2,s4,_,fk1,_,0,1,m1⟩
   exists 0,Z.x,dx,fs,1,s2 _ _ e,f.meth _ ()
   exists 0,o.x,_,o.dx,_,0,s2 _ _ aa.e,T.qx,T.qX,Il o
   exists o.px,aO,0,s2 _ _ hx,nX,0,o.px,q,kd,z,qs,1,aa.p.same s2,hB.q,s2 _ _ hq,()
   have aC:kd="has"∨kd≠"has"/\kd="names":=by
    unfold ph at ac;by_cases c:kd="has"
    ·exact .inl c
    ·rw[uf c,tS] at ac;exact .inr [c:uu ac]
   rcases aC with c|⟨c',c⟩
   ·refine .inl [c:fin _ H2 (ic.refl _) ?_];unfold X5;rw[A6 c];exact Ya (by split<;>decide)
   ·refine .inr [c:λu H3 s3 hu=>fin u H3 s3 ?_];unfold X5;rwa[A4 c']
  |some m=>
   erw[Wi hI he hw,a8,al]
   exists 0,Z.x,dx,fs,1,e,f.meth _ ()
   refine Lc (E:=E0) O.go O.rel hI he hw λkd v H2 s2 ac hv=>b1 _ _ ?_;exists 8,B2,b2;erw[id hv,q,ws,rfl,hq,w1,r1,rfl,[rfl,aN],w2,r2,rfl,[rfl,aB],h3];cases(show r2= [] from h3)
   exists 0,q,_,_,0,1,SqT.of hq,1,(sml rfl),λt ht=>?_;have s3:=qf ht (.tup [V.str "has",V.str "names"])
   exists t,0,.inr (SqT.of qg),1,1,0;refine lr ((AaT kd).trans ac) (b2 _ _ ?_);exists 8,B3,b3;generalize upd H2 t (.tup [V.str "has",V.str "names"])=H3 at s3⊢;have U:=s2.trans s3;have aD:=s3 _ _ hq;have aE:SGI #[Y,(n,p1)::r,don]:=O.gi
   exists 0,o.x,o.dx,0,U _ _ aa.e,wV o _ ()
   exists 0,q,_,_,0,1,SqT.of aD,1,o,m,qs,#[Y,(n,p1)::r,don],uk,fk1,1,[U _ _ aa.e:aa.p.same U],hB.q,aE,U _ _ aw,hU,U _ _ O.df,O.fd.mono U.tk,(by have:=O.len;omega),ap,λu H4 am k4 f4 d4 l4 aS y4=>?_
   have ad:Kp [o.df] H1 H4:=(Kp.of U).trans k4;have aF:H4 q=u_ (.tup [V.str kd,V.str m]):=k4.tk.tup _ _ aD;have aT:o.df∉plc Z s1:=λz=>(hB.new (au _ z)).2.2.2.2 rfl;have G4:lR a.qK a.qm H4 Z s1:=O.go.frame (λb hb ob h=>ad.kept b ob h (λz=>aT (by rwa[<-Ab.mp z]))) ad.tk
   erw[id G4,ao,ae,a9,ba,bb,bc,e4,af,i4,j4,aG,bd];refine b3 _ _ ?_;exists 8,B4,b4
   exists 0,1,0;unfold By at y4;cases hy:Sy.yet #[Y,(n,p1)::r,don] m with
   |none=>
    rw[hy] at y4;cases(show u= .non from y4)
    refine lP (ud rfl) ⟨0,q,_,_,0,1,SqT.of aF,1,?_⟩;refine k _ H4 s1 p1 am ⟨O.st,(by rw[aS hy];exact O.len),λb ob h z=>ad.kept b ob (O.kp b ob h z) (λy=>z (by rw[Ab.mp y];exact ui)),O.tk.trans ad.tk,f4,d4,G4,O.rel,O.pl,O.gi⟩ (.inr ⟨m,1,he,hw,hy⟩)
   |some oa=>
    rw[hy] at y4;erw[y4,d,hd,ha,_];have sh:∃kk rr,d= .tup (.str kk::rr):=by
     cases oa with
     |none=>erw[ha,kk,rr,h,_];exact[kk:rr:h]
     |some x=>cases x with
      |none=>exact[_:_:ha]
      |some y=>exact[_:_:ha]
    erw[sh,kk,rr,rfl];erw[id hd,qa,wa,rfl,ag,w1,r1,rfl,[rfl,aY],h3];refine lr (uf (λz=>by cases z)) (b4 _ _ ?_)
    exists 0,qa,_,_,0,1,SqT.of ag,qU (j:=0) rfl,1,0;have fin:∀(dd:D) (u:V),Is H4 dd u->zl dd->Sy.nxt #[Y,(n,p1)::r,don]=⟨(n,Q3 p1 dd)::r,don⟩->xV a.qK a.qm a.qo [.ref Z.x,u] H4 (λ_ H5=>∃m',m'<Sy.mu #[Y,(n,p1)::r,don]/\J_ m' [u_ (.ref o.x),u_ (.ref Z.x),u_ (.ref q),u_ (.ref qa)] H5) E0:=λdd u hu hok ah=>by
     refine BI G4 O.rel hI he hu (λaQ r' e'=>?_) ax (ak H4 λb ob h n=>ad.kept b ob h (λz=>n (by rw[Ab.mp z];exact ui))) λH5 s5 w5 G5 R5 aU=>?_
     ·rcases al with⟨h1,_⟩|⟨rs,rr,h1,h2⟩
      ·rw[h1] at e';cases e'
      ·rw[h1] at e';cases e';exact⟨"thing",_,h2,Bw hok⟩
     ·have kq:∀b ob,H4 b=u_ ob->b∉plc Z s1->H5 b=u_ ob:=λb ob h n=>w5.kept b ob h (λy=>n (by rw[y];exact ui)) (λmc r' y=>by
       unfold plc at n;rw[y] at n;simp![NV,uG,uH,uO,UR] at n;exact[n.2.1:n.2.2.1:n.2.2.2])
      erw[O.more hB hK hL ad f4 d4 l4 kq w5.tk G5 R5 aU ah,m1,m2];exact⟨_,m2,s5,_,am,_,0,1,m1⟩
    cases oa with
    |some x=>
     have hok:=IT hB.q aE hy;have ah:=O9 he hw hy;cases x with
     |some y=>
      cases(show D.tup (.str kk::rr)= .tup [.str "value",y] from ha)
      erw[h3,w5,r5,rfl,h5,h6];cases(show r5= [] from h6)
      refine lP (ud rfl) ?_;exact⟨0,Z.x,ao,ae,1,e4,af.meth _ (),0,qa,_,_,0,1,SqT.of ag,1,fin y w5 h5 hok ah⟩
     |none=>
      cases(show D.tup (.str kk::rr)= .tup [.str "lack"] from ha)
      refine lr () ?_
      exists 0,qa,_,_,0,1,SqT.of ag,qU (j:=0) rfl,1,0;refine lP (ud rfl) ?_;exact⟨0,Z.x,ao,ae,1,e4,af.meth _ (),fin .non .non rfl hok ah⟩
    |none=>
     erw[ha,k2,r2,e5,c1,c2];cases e5;refine lr (uf (λz=>c1 (V.str.inj z))) ?_
     exists 0,qa,_,_,0,1,SqT.of ag,qU (j:=0) rfl,1,0;refine lr (uf (λz=>c2 (V.str.inj z))) ?_
     exists 0,q,_,_,0,1,SqT.of aF,1,(sml rfl),λt5 aH=>?_;have s5:=qf aH (.tup [V.str "stuck",V.str m]);have aI:↑ae<1000:=by have:=af.len;omega
     exists 0,Z.x,_,ao,ae,1,s5 _ _ e4,T.qR,T.Q2,aI;have aV:=Is.new (H:=H4) (ds:= [.str "stuck",.str m]) (p:=t5) ⟨_,0,Ya (),_,0,[1:aB],1⟩ aH
     erw[WE (C:=a.qK) (CM:=a.qm) (g:=Z) (s:={s1 with en:= .tup [.str "stuck",.str m]}) (s5 _ _ e4) (af.set_end (u:= .ref t5)) (i4.mono s5.tk) (j4.mono s5.tk) (aG.same s5) aV,g1,g2]
     have aJ:mV Z {s1 with en:= .tup [.str "stuck",.str m]} (Ei p1 m):=⟨O.rel.n,O.rel.mb,O.rel.ra,O.rel.run,O.rel.own,1⟩
     have aW:Kp [o.df] H1 (upd H4 t5 (.tup [V.str "stuck",V.str m])):=ad.trans (Kp.of s5);obtain⟨m1,m2⟩:=O.more hB hK hL aW (s5 _ _ f4) (d4.mono s5.tk) l4 (λb ob h n=>g2.kept b ob h (λy=>n (by rw[y];exact ui))) g2.tk g1 aJ (λb hb=> .inl hb) (MT he hw hy)
     exact⟨_,m2,_,_,am,_,0,1,m1⟩
nonrec def xB (CG CM:o3)(H:Hp)(ox:o3):oj (Gc×Gs)->oj (Str×Gp)->Prop
 | [],[]=>True
 |q::t,p::l=>lR CG CM H q.1 q.2/\mV q.1 q.2 p.2/\q.1.o=ox/\xB CG CM H ox t l
 |_,_=>False
nonrec def Me:oj (Gc×Gs)->oj o3
 | []=> []
 |q::t=>plc q.1 q.2++Me t
nonrec def Sep:oj (Gc×Gs)->Prop
 | []=>True
 |q::t=>(∀b∈plc q.1 q.2,b∉Me t)/\Sep t
def xB.frame {CG CM ox:o3}{H H':Hp}:∀{st:oj (Gc×Gs)}{l:oj (Str×Gp)},xB CG CM H ox st l->(∀b∈Me st,∀ob,H b=u_ ob->H' b=u_ ob)->Tk H H'->xB CG CM H' ox st l
 | [],[],_,_,_=>trivial
 | [],_::_,h,_,_=>h.elim
 |_::_,[],h,_,_=>h.elim
 |q::t,p::l,⟨h1,h2,h3,h4⟩,hk,tk=>⟨h1.frame (λb O=>hk b (vh _ O)) tk,h2,h3,xB.frame h4 (λb O=>hk b (uM _ O)) tk⟩
def xB.there {CG CM ox:o3}{H:Hp}:∀{st:oj (Gc×Gs)}{l:oj (Str×Gp)},xB CG CM H ox st l->∀b∈Me st,∃ob,H b=u_ ob
 | [],[],_=>λb O=>by cases O
 | [],_::_,h=>h.elim
 |_::_,[],h=>h.elim
 |q::t,p::l,⟨h1,h2,h3,h4⟩=>λb O=>by
  rcases Ac.mp O with O|O
  ·exact h1.there b O
  ·exact xB.there h4 b O
def xB.len {CG CM ox:o3}{H:Hp}:∀{st:oj (Gc×Gs)}{l:oj (Str×Gp)},xB CG CM H ox st l->↑st=↑l
 | [],[],_=>rfl
 | [],_::_,h=>h.elim
 |_::_,[],h=>h.elim
 |q::t,p::l,⟨h1,h2,h3,h4⟩=>by rw[um,um,xB.len h4]
def As {Y:Sy}:∀l:oj (Str×Y.G),↑l<=Sy.lfts l
 | []=>uj _
 |(_,g)::r=>by
  have:=As r;show ↑r+1<=Y.lft g+1+Sy.lfts r;omega
def Ty (O:ye qs)(n:Str):Sy.mu (Sy.S0 (SyP qs) n)<=20000:=by
 have U:=O.2.2;have Z:∀S:Sy.Ss (SyP qs),↑(Sy.rest S)<=60:=λS=>by
  have h1:↑(Sy.rest S)<=(qs.map (·.1)).length:=tJ _ _;rw[ue] at h1;omega
 unfold Sy.mu;have h2:=Z (Sy.S0 (SyP qs) n);have h3:(SyP qs).M=302:=rfl;rw[h3];have h4:Sy.lfts (Sy.S0 (SyP qs) n).stk<=303:=by
  unfold Sy.S0;cases hg:(SyP qs).g0 n with
  |none=>exact uW _
  |some g=>
   have:=(QZ qs).l0 n g hg;show(SyP qs).lft g+1+0<=303;have h3:(SyP qs).M=302:=rfl;omega
 omega
structure OI {qs:oj (Str×D)}(CG CM:o3)(H0 H:Hp)(o:Oc)(n0:Str)(S:Sy.Ss (SyP qs))(st:oj (Gc×Gs))(uk rk fk:oj (Key×V)):Prop where
 kp:Kp (LO o) H0 H
 nx:∃j,S=Sy.nx (Sy.S0 (SyP qs) n0) j
 ls:H o.ls=u_ (.lst (st.reverse.map λq=>V.ref q.1.x))
 du:H o.du=u_ (.dK uk)
 uo:NH S uk
 ul:↑uk+Sy.mu S<=20001
 dr:H o.dr=u_ (.dK rk)
 rks:rk.map (·.1)=S.don.map λp=>UV p.1
 rv:L2.IsL H (S.don.map λp=>JX p.2) (rk.map (·.2))
 rl:↑S.don+Sy.mu S<=20001
 df:H o.df=u_ (.dK fk)
 fd:BA H S fk
 fl:↑fk+Sy.mu S<=20001
 stk:xB CG CM H o.x st S.stk
 new:∀b∈Me st,H0 b=US
 sep:Sep st
 gi:SGI S
 fin:∀q∈S.don,(Gp.en q.2).isSome=v_
 nd:(S.stk.map (·.1)++S.don.map (·.1)).Nodup
def NK (n:Str)(j:Nat):((Sy.nx (Sy.S0 (SyP qs) n) j).stk.map (·.1)++(Sy.nx (Sy.S0 (SyP qs) n) j).don.map (·.1)).Nodup:=by
 cases O:(SyP qs).g0 n with
 |some g=>exact(Sy.nx_ok (QZ qs) (Sy.S0_ok O) j).nd
 |none=>
  have e:Sy.nx (Sy.S0 (SyP qs) n) j=⟨[],[]⟩:=by
   have U:Sy.S0 (SyP qs) n=⟨[],[]⟩:=by unfold Sy.S0;rw[O]
   rw[U]
   induction j with
   |zero=>rfl
   |succ j Z=>show Sy.nxt _=_;rw[Z];rfl
  rw[e];exact vG
inductive Lr (CO CP:Addr):Sp
 |mk (o:Oc)(qs:List (Str×D))(n:Str)(_:vs= [.ref o.x,.str n])(_:Bs CO CP H o qs)(_:H o.ls=u_ (.lst []))(_:H o.du=u_ (.dK []))(_:H o.dr=u_ (.dK []))(_:H o.df=u_ (.dK []))(_:∀(H':Hp)(rk uk fk:List (Key×V))(don:List (Str×Gp))(j:Nat),H' o.du=u_ (.dK uk)->NH #[Y,[],don] uk->H' o.df=u_ (.dK fk)->BA H' #[Y,[],don] fk->↑fk<=20001->SGI #[Y,[],don]->Kp (LO o) H H'->Sy.nx (Sy.S0 (SyP qs) n) j=⟨[],don⟩->H' o.dr=u_ (.dK rk)->(rk.map (·.1)=don.map λp=>UV p.1)->L2.IsL H' (don.map λp=>JX p.2) (rk.map (·.2))->(∀p∈don,GI p.2/\p.2.en.isSome=v_)->↑don<=20001->Q .non H')
def kP {α:Type}{xs:oj α}{x:α}:atI (xs++ [x]) (-1)=u_ x:=by
 unfold atI ixN;have O:↑(xs++ [x])=↑xs+1:=by simp
 rw[A4 (),A6 ()]
 show(xs++ [x])[(-1+(↑(xs++ [x]):Int)).toNat]? =u_ x;rw[show(-1+(↑(xs++ [x]):Int)).toNat=↑xs by omega]
 simp
def Ku {Y:Sy}(S:Sy.Ss Y)(i:Nat):∀j,Sy.nx S (i+j)=Sy.nx (Sy.nx S i) j
 |0=>rfl
 |j+1=>by show Sy.nxt (Sy.nx S (i+j))=Sy.nxt (Sy.nx (Sy.nx S i) j);rw[Ku S i j]
def Pb {qs:oj (Str×D)}(S:Sy.Ss (SyP qs)):∀j,Sy.mu (Sy.nx S j)<=Sy.mu S
 |0=>uj _
 |j+1=>by
  have h:=Pb S j;show Sy.mu (Sy.nxt (Sy.nx S j))<=_;by_cases c:(Sy.nx S j).stk= []
  ·have e:Sy.nxt (Sy.nx S j)=Sy.nx S j:=by unfold Sy.nxt;rw[c]
   rwa[e]
  ·have:=Sy.nxt_mu (QZ qs) c;omega
def Mp:#[C,13,a.yK,a.yI,["self","name"],(Lr a.qo a.qE)]:=by
 have QQ:=#[Kr,T];have YT:=#[Id,T,C];have x8:=#[O4,T,C];have xg:=#[CD,T];exists 9,T.iG,QH
 erw[h,o,qs,n,rfl,hB,bD,bg,bE,bF,k];have hs:=uD;have hO:=hB.oa;exists 3,%[#[qG,#[qr,yL,#[Qg,pv 0,T.qx,T.iq,QQ,#v[pv 1]],qP],%[|#[qZ,#[Qg,pv 0,T.qx,T.iF,YT,#v[pv 1]]]],qw]|#[xZ,#[wh,3,#[qO,5,pv 0,rfl],(λ_=>rfl)],%[#[qC,(2),QH.nd,#[qI,yi,#[qO,5,pv 0,rfl],#[OR,6,IV,qh]]],#[qC,(3),QH.nd,#[Qg,pv 0,T.qx,T.iY,x8,#v[pv 2]]]|#[qG,#[qr,yL,pv 3,qP],%[#[qZ,#[Kn,9,vc,PySem.F.slot_list_pop,PySem.F.type_list_pop,Kw,#[qO,5,pv 0,rfl],_,_]],#[qZ,#[ET,7,#[qO,5,pv 0,rfl],#[qO,5,pv 2,rfl],⟨1,1,1,1⟩]]|#[qZ,#[Qg,pv 0,T.qx,T.iO,xg,#v[pv 2]]]],%[|#[qZ,#[Qg,pv 0,T.qx,T.iF,YT,#v[pv 3]]]]]]]]
 have bG:=Ty hB.q n;exists 8,N,hN;have bH:∀(H1:Hp) (S:Sy.Ss (SyP qs)) (st:oj (Gc×Gs)) (uk rk fk:oj (Key×V)),OI a.qK a.qm H H1 o n S st uk rk fk->N [u_ (.ref o.x),u_ (.str n),US,US] H1:=by
  intro H1 S st uk rk fk h1;refine hN _ _ ?_
  let J_:Nat->L2.St->Hp->Prop:=λmm σ H2=>∃(S:Sy.Ss (SyP qs)) (st:oj (Gc×Gs)) (uk rk fk:oj (Key×V)) (u3 u4:om V),σ= [u_ (.ref o.x),u_ (.str n),u3,u4]/\mm=Sy.mu S/\OI a.qK a.qm H H2 o n S st uk rk fk
  exists J_,⟨_,S,st,uk,rk,fk,US,US,1,1,h1⟩;clear h1 bg bE bF bD;rintro mm σ H2 ⟨S,st,uk,rk,fk,u3,u4,rfl,rfl,Z⟩;have bh:=hB.at Z.kp
  exists 0,o.x,_,o.dx,_,0,bh.e,T.qx,T.QB,Ik o,_,.inl [_:SqL.of Z.ls:1];obtain⟨(stk:oj (Str×Gp)),(don:oj (Str×Gp))⟩:=S;have ax:xB a.qK a.qm H2 o.x st stk:=Z.stk;cases st with
  |nil=>
   cases stk with
   |cons p l=>exact ax.elim
   |nil=>
    refine lr rfl ?_;erw[Z.nx,j,hj];exact k H2 rk uk fk don j Z.du Z.uo Z.df Z.fd (by have:=Z.fl;omega) Z.gi Z.kp hj.symm Z.dr Z.rks Z.rv (λp hp=>[(Z.gi p (.inr hp)).1:Z.fin p hp]) (by have:=Z.rl;have e:↑(#[Y,[],don].don)=↑don:=rfl;omega)
  |cons q t=>
   erw[q,gc,gs];cases stk with
   |nil=>exact ax.elim
   |cons p l=>
    erw[p,O,p];erw[ax,hG,bo,bI,hT];have hG:lR a.qK a.qm H2 gc gs:=hG;have bo:mV gc gs p:=bo;have am:H2 o.ls=u_ (.lst ((t.reverse.map λq=>V.ref q.1.x)++ [V.ref gc.x])):=by
     have:=Z.ls;rwa[UM,uz] at this
    refine lP (by rw[UM,uz];show(!((Hq _ t.reverse)++ [V.ref gc.x]).isEmpty)=v_;simp) ?_
    exists λσ' H'=>∃m',m'<Sy.mu #[Y,(O,p)::l,don]/\J_ m' σ' H',λ_ _ h=>h;exists 8,B1,b1
    exists 0,o.x,_,o.dx,_,0,bh.e,T.qx,T.QB,Ik o,0,o.ls,_,_,0,1,SqL.of am,kP,b1 _ _ ?_;exists 8,B2,b2;have ao:∀b∈plc gc gs,H b=none:=λb U=>Z.new b (vh _ U);have ac:∀b∈Me t,H b=none:=λb U=>Z.new b (uM _ U);have bJ:∃j,#[Y,(O,p)::l,don]=Sy.nx #[Y,(O,p)::l,don] j:=[(0):1]
    exists 0,o.x,o.dx,0,bh.e,wV o _ (),0,H,o,qs,gc,gs,O,p,l,don,uk,fk,(20001),1,hB,Z.kp,Z.du,Z.uo,Z.fin,(),bI,ao,⟨bJ,Z.fl,λ_ _ h _=>h,Tk.refl _,Z.df,Z.fd,hG,bo,λb U=> .inl U,Z.gi⟩,λv H3 ak p3 ad hR hv=>?_
    have aW:Sy.mu #[Y,(O,p3)::l,don]<=Sy.mu #[Y,(O,p)::l,don]:=by
     erw[hR.st,j,hj];have hj:#[Y,(O,p3)::l,don]=Sy.nx #[Y,(O,p)::l,don] j:=hj;rw[hj];exact Pb _ _
    have bK:∃j,#[Y,(O,p3)::l,don]=Sy.nx (Sy.S0 (SyP qs) n) j:=by
     erw[hR.st,j,hj];erw[Z.nx,i,hi];have hj:#[Y,(O,p3)::l,don]=Sy.nx #[Y,(O,p)::l,don] j:=hj;exact⟨i+j,by rwa[Ku,<-hi]⟩
    have ap:Kp (LO o) H H3:=pX hB Z.kp hR.kp hR.tk ao;have ay:=hB.at ap;have aq:∀b∈plc gc ak,H b=none:=λb U=>(hR.pl b U).elim (ao b) (·.2);have out:∀b,b∈LO o->b≠o.df->b∉o.df::plc gc gs:=λb U hn z=>by
     rcases Aa.mp z with z|z
     ·exact hn z
     ·exact hB.nlo (ao b z) U
    have bZ:o.ls≠o.du/\o.ls≠o.dr/\o.ls≠o.df/\o.du≠o.dr/\o.du≠o.df/\o.dr≠o.df:=by
     have h:=hB.nd;simp![LO,Uj,uG,uH,uO,UR,vG,and_true,UL] at h;exact⟨h.1.1,h.1.2.1,h.1.2.2,h.2.1.1,h.2.1.2,h.2.2⟩
    erw[bZ,d1,d2,d3,d4,d5,d6];have af:=hR.kp _ _ am (out _ (by simp[LO]) d3)
    have aA:=hR.kp _ _ Z.du (out _ (by simp[LO]) d5)
    have aB:=hR.kp _ _ Z.dr (out _ (by simp[LO]) d6)
    have bp:xB a.qK a.qm H3 o.x t l:=hT.frame (λb U ob h=>hR.kp b ob h (λz=>by
     rcases Aa.mp z with z|z
     ·exact(hB.new (ac b U)).2.2.2.2 z
     ·exact Z.sep.1 b z U)) hR.tk
    have bq:∀b∈plc gc ak,b∉Me t:=λb U z=>by
     rcases hR.pl b U with U|⟨U,_⟩
     ·exact Z.sep.1 b U z
     ·erw[hT.there b z,ob,e];rw[e] at U;cases U
    have b3:GI p3:=(hR.gi (O,p3) (.inl ui)).1;have aX:p3.n=O:=(hR.gi (O,p3) (.inl ui)).2;have bL:=Z.ul;have bM:=hR.len;have b4:=Z.rl;have cm:↑don+Sy.mu #[Y,(O,p)::l,don]<=20001:=b4;have b5:↑ad+Sy.mu #[Y,(O,p3)::l,don]<=20001:=bM;have aC:=Sy.nxt_mu (QZ qs) (S:=#[Y,(O,p3)::l,don]) (by intro z;cases z)
    have cn:↑rk=↑don:=by
     have:=A9 VD Z.rks;rwa[ue,ue] at this
    have aD:H3 o.df=u_ (.dK ad):=hR.df;have aO:lR a.qK a.qm H3 gc ak:=hR.go;have ag:mV gc ak p3:=hR.rel;have aY:BA H3 #[Y,(O,p3)::l,don] ad:=hR.fd;have aZ:SGI #[Y,(O,p3)::l,don]:=hR.gi;erw[bK,i3,aP];refine b2 _ _ ?_
    exists 0,1,0;rcases hv with⟨rfl,au⟩|⟨m,rfl,au,hw,hy⟩
    ·
     refine lP (ud rfl) ?_;exists 8,C1,c1;obtain⟨d,hd⟩:∃d,p3.en=u_ d:=by
      cases h:p3.en with
      |none=>rw[h] at au;cases au
      |some d=>exact[d:1]
     have ae:=MU (qs:=qs) (n:=O) (r:=l) (don:=don) hd
     exists 0,o.x,_,o.dx,_,0,ay.e,T.qx,T.QB,Ik o,.inl [1:_:SqL.of af]
     exists o.ls,_,V.ref gc.x,1,1,af,by simp
     rw[List.dropLast_concat];have aa:Kp [o.ls,o.du] H3 (upd H3 o.ls (.lst (t.reverse.map λq=>V.ref q.1.x))):=⟨λb ob h n=>by rw[qk (λz=>n (by rw[z];exact ui))];exact h,iR.tk (p:=o.ls) (λb ob h n=>by rwa[qk n]) af qg⟩
     obtain⟨H4,aE⟩:∃H4,H4=upd H3 o.ls (.lst (t.reverse.map λq=>V.ref q.1.x)):=⟨0⟩;rw[<-aE] at aa⊢;refine c1 _ _ ?_;exists 8,C2,c2;have e4:H4 o.x=u_ (.ins a.qo o.dx (ofs o)):=by rw[aE,qk (λz=>by have:=ay.e;rw[z,af] at this;cases this)];exact ay.e
     have aF:H4 o.ls=u_ (.lst (t.reverse.map λq=>V.ref q.1.x)):=by rw[aE];exact qg
     have al:H4 o.du=u_ (.dK uk):=by rwa[aE,qk d1.symm]
     have bN:∀b,H b=US->b≠o.ls:=λb U=>(hB.new U).2.1;have b6:lR a.qK a.qm H4 gc ak:=aO.frame (λb U ob h=>by rwa[aE,qk (bN b (aq b U))]) aa.tk
     erw[id b6,b7,b8,cp,cq,cr,cs,b9,f4,_];have aG:(iK uk (UV gc.n)).isSome=true:=by
      rw[ag.n,aX];exact(Z.uo O).trans (ud ui)
     obtain⟨uv,ca⟩:∃uv,iK uk (UV gc.n)=u_ uv:=by
      cases h:iK uk (UV gc.n) with
      |none=>rw[h] at aG;cases aG
      |some uv=>exact[uv:1]
     exists 0,o.x,_,o.dx,_,0,e4,T.qx,T.Qw,MQ o,o.du,1,.inl [_:.inl al],0,gc.x,_,b7,b8,0,b9,T.qR,T.Yc,f4.zC,uk,UV gc.n,uv,al,1,ca;have ah:Kp [o.ls,o.du] H3 (upd H4 o.du (.dK (j8 uk (UV gc.n)))):=aa.trans (Kp.updD al (uh _ ui));obtain⟨H5,bt⟩:∃H5,H5=upd H4 o.du (.dK (j8 uk (UV gc.n))):=⟨0⟩;rw[<-bt] at ah⊢;refine c2 _ _ ?_;have bO:H5 o.du=u_ (.dK (j8 uk (UV gc.n))):=by rw[bt];exact qg
     have bP:H5 o.ls=u_ (.lst (t.reverse.map λq=>V.ref q.1.x)):=by rwa[bt,qk d1]
     have aH:∀b,H b=US->b∉ [o.ls,o.du]:=λb U z=>by
      simp![uG,uH,uO] at z;rcases z with z|z
      ·exact(hB.new U).2.1 z
      ·exact(hB.new U).2.2.1 z
     have cb:lR a.qK a.qm H5 gc ak:=aO.frame (λb U ob h=>ah.kept b ob h (aH b (aq b U))) ah.tk;have bQ:H5 o.dr=u_ (.dK rk):=ah.kept _ _ aB (by simp![uG,uH,uO,UR];exact[d2.symm:d4.symm])
     have bR:H5 o.df=u_ (.dK ad):=ah.kept _ _ aD (by simp![uG,uH,uO,UR];exact[d3.symm:d5.symm])
     have aQ:∀b,b∉LO o->b∉ [o.ls,o.du]:=λb U z=>U (by simp![LO,uG,uH,uO] at z⊢;rcases z with z|z;exact .inl z;exact .inr (.inl z))
     have bu:Kp (LO o) H H5:=[λb ob h n=>ah.kept b ob (ap.kept b ob h n) (aQ b n):ap.tk.trans ah.tk];have bS:=hB.at bu
     exists 0,o.x,o.dx,0,bS.e,wV o _ (),0,o,qs,gc,ak,p3,rk,ad,1,bS,cb,ag,b3,au,bQ,(),bR,(),d6,λz=>(hB.new (aq _ z)).2.2.2.1 rfl,λz=>(hB.new (aq _ z)).2.2.2.2 rfl,λv1 v2 H6 aw aI i6 ba j6=>?_
     have bT:∀b,b∉LO o->b∉ [o.dr,o.df]:=λb U z=>U (by simp![LO,uG,uH,uO] at z⊢;rcases z with z|z;exact .inr (.inr (.inl z));exact .inr (.inr (.inr z)))
     have cc:∀b,H b=US->b∉ [o.dr,o.df]:=λb U=>bT b (hB.nlo U);have cd:Kp (LO o) H H6:=[λb ob h n=>aw.kept b ob (bu.kept b ob h n) (bT b n):bu.tk.trans aw.tk];have aJ:Tk H3 H6:=ah.tk.trans aw.tk;have bv:gc.n=O:=ag.n.trans aX;have aR:(#[Y,(O,p3)::l,don].stk.map (·.1)++#[Y,(O,p3)::l,don].don.map (·.1)).Nodup:=by
      rw[aP];exact NK n i3
     have bb:(O::(l.map (·.1)++don.map (·.1))).Nodup:=aR;have aK:O∉don.map (·.1):=λz=>(List.nodup_cons.mp bb).1 (uM _ z);have bw:O∉l.map (·.1):=λz=>(List.nodup_cons.mp bb).1 (vh _ z);have ce:iK rk (UV O)=none:=by
      cases h:iK rk (UV O) with
      |none=>rfl
      |some v=>
       have h1:=Lg h;rw[Z.rks] at h1;erw[Ae.mp h1,q,hq,e];injection e with e
       exact A8 (Ae.mpr [q:hq:e]) aK
     rw[bv] at aI ba;rw[Ke v1 ce] at aI;have bU:↑uk+Sy.mu #[Y,(O,p)::l,don]<=20001:=bL;have cu:=AF uk (UV gc.n:Key);have cf:=yj ad (UV O:Key) v2;have a1:NH #[Y,l,don++ [(O,p3)]] (j8 uk (UV gc.n)):=by
      intro m';rw[Zv];by_cases c:m'=O
      ·rw[A6 (by rw[c,bv]),c]
       exact(uf bw).symm
      ·rw[A4 (by rw[bv];exact λz=>c (Uf z))]
       refine(Z.uo m').trans ?_;rw[uX];exact⟨λz=>by rcases Aa.mp z with z|z;exact A8 z c;exact z,λz=>uh _ z⟩
     have a2:(rk++ [((UV O:Key),v1)]).map (·.1)=(don++ [(O,p3)]).map λq:Str×Gp=>(UV q.1:Key):=by
      rw[uz,uz];have:=Z.rks;rw[this]
      rfl
     have a3:L2.IsL H6 ((don++ [(O,p3)]).map λq:Str×Gp=>JX q.2) ((rk++ [((UV O:Key),v1)]).map (·.2)):=by
      rw[uz,uz];exact((Z.rv.mono (hR.tk.trans aJ))).append (L2.IsL.one i6)
     have a4:↑(don++ [(O,p3)])=↑don+1:=by rw[uA];rfl
     have a5:∀(m':Str) (g':Gp),g0D m' (qS qs m')=u_ g'->(∀g2:Gp,Sy.jZ (Y:=SyP qs) (don++ [(O,p3)]) m'=u_ g2->∃v,iK (lD ad (UV O) v2) (UV m')=u_ v/\Is H6 (Yo (g2.en.getD .non)) v)/\(Sy.jZ (Y:=SyP qs) (don++ [(O,p3)]) m'=US->iK (lD ad (UV O) v2) (UV m')=US):=by
      intro m' g' cg;rw[Xa];by_cases c:m'=O
      ·have aL:Sy.jZ (Y:=SyP qs) (don++ [(O,p3)]) m'=(u_ p3:om Gp):=by
        have e1:(don.find? λq=>decide (q.1=m'))=none:=List.find?_eq_none.mpr λq hq e=>aK (by rw[<-c,<-uu e];exact Hn hq)
        have e2:((don++ [(O,p3)]).find? λq:Str×Gp=>decide (q.1=m'))=u_ (O,p3):=by rw[rH,e1,c];simp
        show((don++ [(O,p3)]).find? λq:Str×Gp=>decide (q.1=m')).map (·.2)=u_ p3;rw[e2]
        rfl
       exists λg2 e2=>?_,λz=>?_
       ·have e3:=aL.symm.trans e2;cases e3;rw[A6 (by rw[c])]
        exact[v2:1:j6]
       ·have e3:=aL.symm.trans z;cases e3
      ·have aL:Sy.jZ (Y:=SyP qs) (don++ [(O,p3)]) m'=Sy.jZ (Y:=SyP qs) don m':=by
        have e2:((don++ [(O,p3)]).find? λq:Str×Gp=>decide (q.1=m'))=don.find? λq:Str×Gp=>decide (q.1=m'):=by
         rw[rH];have:([(O,p3)].find? λq:Str×Gp=>decide (q.1=m'))=none:=by simp;exact λz=>c z.symm
         rw[this,Option.or_none]
        show((don++ [(O,p3)]).find? λq:Str×Gp=>decide (q.1=m')).map (·.2)=(don.find? λq:Str×Gp=>decide (q.1=m')).map (·.2);rw[e2]
       rw[A4 (λz=>c (Uf z))];have aM:(∀g2:Gp,Sy.jZ (Y:=SyP qs) don m'=u_ g2->∃v,iK ad (UV m')=u_ v/\Is H6 (Yo (g2.en.getD .non)) v)/\(Sy.jZ (Y:=SyP qs) don m'=US->iK ad (UV m')=US):=(aY.mono aJ) m' g' cg;exact[λg2 e2=>aM.1 g2 (aL.symm.trans e2):λz=>aM.2 (aL.symm.trans z)]
     have a6:xB a.qK a.qm H6 o.x t l:=bp.frame (λb U ob h=>aw.kept b ob (ah.kept b ob h (aH b (ac b U))) (cc b (ac b U))) aJ;have a7:∀q∈don++ [(O,p3)],q.2.en.isSome=true:=by
      intro q hq;rcases Ac.mp hq with hq|hq
      ·exact Z.fin q hq
      ·cases Ab.mp hq;exact au
     have eN:Sy.nx (Sy.S0 (SyP qs) n) (i3+1)=Sy.nxt #[Y,(O,p3)::l,don]:=by show Sy.nxt (Sy.nx _ i3)=_;rw[<-aP]
     have a8:=NK (qs:=qs) n (i3+1);rw[eN] at a8;have a9:=C0 hB.q aZ;have bx:OI a.qK a.qm H H6 o n (Sy.nxt #[Y,(O,p3)::l,don]) t (j8 uk (UV gc.n)) (rk++ [(UV O,v1)]) (lD ad (UV O) v2):=by
      exists cd,[i3+1:eN.symm],aw.kept _ _ bP (by simp![uG,uH,uO,UR];exact[d2:d3]),aw.kept _ _ bO (by simp![uG,uH,uO,UR];exact[d4:d5]),?_,(),aI,?_,?_,?_,ba,?_,(),?_,ac,Z.sep.2,a9,?_,a8
      ·rwa[ae]
      ·rwa[ae]
      ·rwa[ae]
      ·have e:(Sy.nxt #[Y,(O,p3)::l,don]).don.length=↑don+1:=by rwa[ae]
       omega
      ·rwa[ae]
      ·rwa[ae]
      ·rwa[ae]
     exact⟨_,V5 aC aW,_,t,_,_,_,_,0,1,bx⟩
    ·
     refine lr (uf (λz=>by cases z)) ?_
     erw[Io (qs:=qs) au hw hy,p',ch,ae];rw[ae] at aC;erw[Sy.XC hy,y1,_,y3];have bV:=As (Y:=SyP qs) ((O,p3)::l);have aS:↑((O,p3)::l)<=Sy.mu #[Y,(O,p3)::l,don]:=uQ bV (UP _ _);have cv:↑t=↑l:=hT.len;have bU:↑uk+Sy.mu #[Y,(O,p)::l,don]<=20001:=bL
     exists 0,o.x,o.dx,0,ay.e,wV o _ (),0,o,m,qs,_,uk,p',1,ay,hB.q,af,?_,aA,(),ch,λgn sn H4 aa aF al bA bB bC aT=>?_
     ·rw[uA,ue,List.length_reverse,vm];rw[um] at aS;omega
     have aQ:∀b,b∉LO o->b∉ [o.ls,o.du]:=λb U z=>U (by simp![LO,uG,uH,uO] at z⊢;rcases z with z|z;exact .inl z;exact .inr (.inl z))
     have ci:Kp (LO o) H H4:=[λb ob h n=>aa.kept b ob (ap.kept b ob h n) (aQ b n):ap.tk.trans aa.tk];have aH:∀b,H b=US->b∉ [o.ls,o.du]:=λb U=>aQ b (hB.nlo U);have aN:∀b∈plc gn sn,H b=none:=λb U=>by
      have h3:=aT b U;cases h:H b with
      |none=>rfl
      |some ob=>
       by_cases c:b∈LO o
       ·simp![LO,uG,uH,uO] at c;rcases c with rfl|rfl|rfl|rfl
        ·rw[af] at h3;cases h3
        ·rw[aA] at h3;cases h3
        ·rw[aB] at h3;cases h3
        ·rw[aD] at h3;cases h3
       ·rw[ap.kept b ob h c] at h3;cases h3
     exists _,V5 aC aW,[(m,p')::(O,p3)::l:don],(gn,sn)::(gc,ak)::t,lD uk (UV m) (.bl v_),rk,ad,_,0,1;have cf:=yj uk (UV m:Key) (.bl v_)
     exists 5
     refine⟨ci,⟨i3+1,by show _=Sy.nxt (Sy.nx _ i3);rw[<-aP,ae]⟩,?_,al,?_,(),aa.kept _ _ aB (by simp![uG,uH,uO,UR];exact[d2.symm:d4.symm]),Z.rks,Z.rv.mono (hR.tk.trans aa.tk),?_,aa.kept _ _ aD (by simp![uG,uH,uO,UR];exact[d3.symm:d5.symm]),?_,(),?_,?_,?_,?_,Z.fin,?_⟩
     ·rw[aF,UM,UM,uz,uz]
      rfl
     ·intro m';rw[Xa];by_cases c:m'=m
      ·rw[A6 (by rw[c])]
       exact(ud (by rw[c];exact ui)).symm
      ·rw[A4 (λz=>c (Uf z))];refine(Z.uo m').trans ?_;rw[uX];exact⟨λz=>uh _ z,λz=>by rcases Aa.mp z with z|z;exact A8 z c;exact z⟩
     ·show ↑don+_<=_;omega
     ·exact aY.mono aa.tk
     ·exact⟨bA,bB,bC,aO.frame (λb U ob h=>aa.kept b ob h (aH b (aq b U))) aa.tk,ag,bI,bp.frame (λb U ob h=>aa.kept b ob h (aH b (ac b U))) aa.tk⟩
     ·intro b U;rcases Ac.mp U with U|U
      ·exact aN b U
      ·rcases Ac.mp U with U|U
       ·exact aq b U
       ·exact ac b U
     ·exists λb U z=>?_,bq,Z.sep.2;have h3:=aT b U;rcases Ac.mp z with z|z
      ·erw[aO.there b z,ob,e];rw[e] at h3;cases h3
      ·erw[bp.there b z,ob,e];rw[e] at h3;cases h3
     ·have:=C0 hB.q aZ;rwa[ae] at this
     ·have:=NK (qs:=qs) n (i3+1);have e:Sy.nx (Sy.S0 (SyP qs) n) (i3+1)=⟨(m,p')::(O,p3)::l,don⟩:=by show Sy.nxt (Sy.nx _ i3)=_;rw[<-aP,ae]
      rwa[e] at this
 have u0:NH #[Y,[],[]] []:=λm=>by rw[W1];rfl
 have f0:BA H #[Y,[],[]] []:=λm g hg=>⟨(λg' e=>by cases e),λ_=>W1⟩
 have g0:SGI #[Y,[],[]]:=λp hp=>by rcases hp with hp|hp<;>cases hp
 exists 0,o.x,o.dx,0,hO.e,wV o _ (),0,o,n,qs,#[Y,[],[]],[],[],1,hO,hB.q,g0,bg,u0,bF,f0,(),(λ_ z=>by cases z),λv H1 fk1 k1 f1 d1 l1 bW y1=>?_
 have aR:=hB.nd;simp![LO,Uj,uG,uH,uO,UR,vG,and_true,UL] at aR;erw[aR,[n1,n2,n3],[n4,n5],n6];have aU:∀b,b≠o.df->b∉ [o.df]:=λb U z=>U (Ab.mp z);have aV:Kp (LO o) H H1:=⟨λb ob h z=>k1.kept b ob h (λy=>z (by rw[Ab.mp y];simp[LO])),k1.tk⟩
 have bX:=hB.at aV;have bc:=k1.kept _ _ bD (aU _ n3);have bd:=k1.kept _ _ bg (aU _ n5);have be:=k1.kept _ _ bE (aU _ n6)
 exists 1,0;unfold By at y1;cases hg:(SyP qs).g0 n with
 |none=>
  have ey:Sy.yet #[Y,[],[]] n=u_ (u_ ((SyP qs).once n)):=by
   unfold Sy.yet;rw[A4 (by intro z;cases z),hg]
  rw[ey] at y1;erw[y1,d,i1,i2,_];have cj:d≠ .non:=by
   cases h:(SyP qs).once n with
   |none=>rw[h] at i2;intro z;rw[z] at i2;cases i2
   |some x=>rw[h] at i2;intro z;rw[z] at i2;cases i2
  refine lr (uf (JC i1 cj)) ?_;have e0:Sy.S0 (SyP qs) n=⟨[],[]⟩:=by unfold Sy.S0;rw[hg]
  rw[e0] at bG;have l1:↑fk1<=0+1:=l1;exact bH H1 [[]:[]] [] [] [] fk1 ⟨aV,[(0):e0.symm],bc,bd,u0,(by show 0+_<=_;omega),be,1,1,(by show 0+_<=_;omega),f1,d1,(),trivial,(λb U=>by cases U),trivial,g0,(λq hq=>by cases hq),vG⟩
 |some p=>
  have ey:Sy.yet #[Y,[],[]] n=none:=by
   unfold Sy.yet;rw[A4 (by intro z;cases z),hg]
   rfl
  rw[ey] at y1;cases(show v= .non from y1)
  refine lP (ud rfl) ?_;have e0:Sy.S0 (SyP qs) n=⟨[(n,p)],[]⟩:=by unfold Sy.S0;rw[hg]
  rw[e0] at bG;have bW:↑fk1=0:=bW ey
  exists 0,o.x,o.dx,0,bX.e,wV o _ (),0,o,n,qs,[],[],p,1,bX,hB.q,bc,(),bd,(),hg,λgn sn H2 k2 am bY bA bB bC aT=>?_
  have ck:Kp (LO o) H H2:=⟨λb ob h z=>k2.kept b ob (aV.kept b ob h z) (λy=>z (by simp![LO,uG,uH,uO] at y⊢;rcases y with y|y;exact .inl y;exact .inr (.inl y))),aV.tk.trans k2.tk⟩
  have aN:∀b∈plc gn sn,H b=none:=λb U=>by
   have h3:=aT b U;cases h:H b with
   |none=>rfl
   |some ob=>
    by_cases c:b=o.df
    ·rw[c,f1] at h3;cases h3
    ·rw[k1.kept b ob h (aU b c)] at h3;cases h3
  have bf:∀b,b≠o.ls->b≠o.du->b∉ [o.ls,o.du]:=λb h1 h2 z=>by
   simp![uG,uH,uO] at z;rcases z with z|z
   ·exact h1 z
   ·exact h2 z
  refine bH H2 [[(n,p)]:[]] [(gn,sn)] (lD [] (UV n) (.bl v_)) [] fk1 ⟨ck,[(0):e0.symm],am,bY,?_,?_,k2.kept _ _ be (bf _ (Uo n2) (Uo n4)),1,1,(by show 0+_<=_;omega),k2.kept _ _ f1 (bf _ (Uo n3) (Uo n5)),d1.mono k2.tk,(),⟨bA,bB,bC,trivial⟩,?_,⟨λb U z=>(by cases z),trivial⟩,?_,(λq hq=>by cases hq),?_⟩
  ·intro m';rw[Xa];by_cases c:m'=n
   ·rw[A6 (by rw[c])]
    exact(ud (by rw[c];exact ui)).symm
   ·rw[A4 (λz=>c (Uf z)),W1];exact(uf (λz=>c (Ab.mp z))).symm
  ·have:=yj [] (UV n:Key) (.bl v_);rw[UD] at this;omega
  ·intro b U;rcases Ac.mp U with U|U
   ·exact aN b U
   ·cases U
  ·intro q hq;rcases hq with hq|hq
   ·cases Ab.mp hq;exact DB hB.q hg
   ·cases hq
  ·exact List.nodup_cons.mpr ⟨(λz=>by cases z),vG⟩
end
namespace Sy
variable {Y:Sy}
end Sy
section
variable {qs qs':oj (Str×D)}
noncomputable abbrev FP (qs:oj (Str×D)):Sy.Orc:=Sy.F (SyP qs)
noncomputable abbrev itP (qs:oj (Str×D)) (k:Nat) (g:Gp):Gp:=Sy.it (SyP qs) (FP qs) k g
def BO (g:Gp):Sy.step (SyP qs) (FP qs) g=if g.en.isSome=v_ then g else match yb g with
  |none=>mW qs g
  |some m=>match FP qs m with
   |some a=>Q3 g (a.getD .non)
   |none=>Ei g m:=rfl
nonrec def Zr (p:Gp):oj D:=p.ra++runPG' p.run
where runPG':om (oj Rw×Rn)->oj D
 |none=> []
 |some (_,r)=>r.gs
nonrec def GA (g:Gp):Prop:=g.run=US->g.en=US->g.ra= []
def pE {rs:oj Rw}{own:Str}{gs:oj D}:∀(f:Nat) (B:Str->D) (p:Int) (n:Nat),(mw rs own gs f B p n).gs=gs
 |0,B,p,n=>rfl
 |f+1,B,p,n=>by
  unfold mw;by_cases c:p>↑rs
  ·rw[A6 c]
  ·rw[A4 c];cases U:mo own (jT rs p) B p with
   |go O p'=>exact pE f O p' (n+1)
   |stop e=>rfl
def NG {r:Rn}{a:D}:(mt rs own r a).gs=r.gs++ [.tup [Zd r.th,a]]:=by
 unfold mt;split
 ·rfl
 ·exact pE _ _ _ _
def AO (h:g.run=US)(d:D):Zr (me g d)=g.ra/\GA (me g d):=by
 unfold me;split
 ·exists ?_,λ_ z=>by cases z
  show g.ra++Zr.runPG' g.run=g.ra;rw[h];exact vQ _
 ·cases hd:QI d with
  |none=>
   exists ?_,λ_ z=>by cases z
   show g.ra++Zr.runPG' g.run=g.ra;rw[h];exact vQ _
  |some rs=>
   exists ?_,λz=>by cases z
   show g.ra++(R0 rs g.n).gs=g.ra;rw[show(R0 rs g.n).gs= [] from pE _ _ _ _]
   exact vQ _
def oX (ha:GA g)(he:g.en=US)(d:D):Zr (Q3 g d)=Zr g++ [.tup [jt g,d]]/\GA (Q3 g d):=by
 unfold Q3;cases O:g.run with
 |none=>
  have U:=ha O he;erw[AO (g:=⟨g.n,g.mb,[.tup [.tup [.str "rule",g.mb],d]],US,g.en⟩) rfl d,h1,h2];exists h1.trans ?_,h2;have e1:Zr g= []:=by unfold Zr;rw[U,O];rfl
  have Z:jt g= .tup [.str "rule",g.mb]:=by unfold jt;rw[O]
  rw[e1,Z]
  rfl
 |some p=>
  erw[p,rs,r];exists ?_,λz=>by cases z
  show g.ra++(mt rs g.n r d).gs=Zr g++_;have Z:jt g=Zd r.th:=by unfold jt;rw[O]
  have e3:Zr g=g.ra++r.gs:=by unfold Zr;rw[O];rfl
  rw[NG,Z,e3,UJ]
def No {d:D}(h:g0D m d=u_ g):GA g/\Zr g= []:=by
 unfold g0D at h;split at h
 ·split at h
  ·cases h
  ·split at h
   ·cases h;exact[λ_ _=>rfl:1]
   ·cases h;erw[AO (g:=⟨m,.non,[],US,US⟩) rfl _,h1,h2];exact[h2:h1]
 ·cases h
def CA (U:ye qs)(O:g0D m (qS qs m)=US):zl ((pM (qS qs m)).getD .non):=by
 by_cases hm:m∈qs.map (·.1)
 ·erw[JG U hm,hn,k,e,hd,h1,h2];rw[hd] at O⊢;unfold g0D at O;simp only at O;by_cases c:k="leaf"
  ·exact .inr (h2 (by rw[c];decide+kernel)).2
  ·rw[A4 c] at O;split at O<;>cases O
 ·rw[YQ hm];exact .inl rfl
def pq (Z:ye qs){f:Sy.Orc}(hf:∀m a,f m=u_ a->zl (a.getD .non))(h:GI g)(ha:GA g):GI (Sy.step (SyP qs) f g)/\GA (Sy.step (SyP qs) f g):=by
 have e:Sy.step (SyP qs) f g=if g.en.isSome=v_ then g else match yb g with
  |none=>mW qs g
  |some m=>match f m with
   |some a=>Q3 g (a.getD .non)
   |none=>Ei g m:=rfl
 rw[e];cases O:g.en with
 |some d=>exact[h:ha]
 |none=>
  simp![Hj,A4 uc];cases U:yb g with
  |none=>
   erw[Zj (qs:=qs) h O U,rs,r,k,z,_,_,hk,_,e];exists KM Z h O U;show GA (mW qs g);rw[e];exact(oX ha O _).2
  |some m=>
   simp only;cases hm:f m with
   |some a=>exact[si h O (hf m a hm):(oX ha O _).2]
   |none=>exact⟨KL h m,λ_ z=>by cases z⟩
def Ng (O:ye qs){f:Sy.Orc}(U:∀m a,f m=u_ a->zl (a.getD .non)):∀(k:Nat) {g:Gp},GI g->GA g->GI (Sy.it (SyP qs) f k g)/\GA (Sy.it (SyP qs) f k g)
 |0,g,h,ha=>[h:ha]
 |k+1,g,h,ha=>Ng O U k (pq O U h ha).1 (pq O U h ha).2
def Sg (U:ye qs):∀(k:Nat) (m:Str) (a:om D),Sy.Fh (SyP qs) k m=u_ a->zl (a.getD .non)
 |0,m,a,h=>by
  cases O:(SyP qs).g0 m with
  |none=>rw[Sy.Zw O] at h;cases h;exact CA U O
  |some g=>rw[Sy.kL O] at h;cases h
 |k+1,m,a,h=>by
  cases O:(SyP qs).g0 m with
  |none=>rw[Sy.Zw O] at h;cases h;exact CA U O
  |some g=>
   rw[Sy.Fh_run O] at h;have Z:=Ng U (Sg U k) 302 (DB U O).1 (No O).1;cases hs:(SyP qs).said (Sy.it (SyP qs) (Sy.Fh (SyP qs) k) (SyP qs).M g) with
   |none=>rw[hs] at h;cases h
   |some v=>
    rw[hs] at h;cases h;exact .inr (Ce Z.1 hs)
def Sn (O:ye qs)(m:Str)(a:om D)(h:FP qs m=u_ a):zl (a.getD .non):=by
 erw[(Sy.F_iff (QZ qs)).mp h,k,h];exact Sg O k m a h
def oz (O:ye qs)(U:g0D m (qS qs m)=u_ g)(k:Nat):GI (itP qs k g)/\GA (itP qs k g):=Ng O (Sn O) k (DB O U).1 (No U).1
end
nonrec def Dn (qs:oj (Str×D))(n:Str)(don:oj (Str×Gp)):Prop:=∃j,Sy.nx (Sy.S0 (SyP qs) n) j=[[]:don]
section
variable {qs:oj (Str×D)}{n:Str}{don don':oj (Str×Gp)}
def PM (h:Dn qs n don)(k:Dn qs n don'):don=don':=by
 erw[h,i,hi];erw[k,j,O];have e:=Sy.nx_one (S:=Sy.S0 (SyP qs) n) (k:=i) (j:=j) (by rw[hi]) (by rw[O])
 rw[hi,O] at e;exact A9 Sy.Ss.don e
def DV (O:g0D n (qS qs n)=US)(h:Dn qs n don):don= []:=by
 have U:Sy.S0 (SyP qs) n=⟨[],[]⟩:=by unfold Sy.S0;rw[show(SyP qs).g0 n=US from O]
 exact PM h [(0):U]
def Nw (O:g0D n (qS qs n)=u_ g)(h:Dn qs n don):Sy.SOk (Y:=SyP qs) n [[]:don]:=by
 erw[h,j,U];rw[<-U];exact Sy.nx_ok (QZ qs) (Sy.S0_ok O) j
def Nx (O:g0D n (qS qs n)=u_ g)(h:Dn qs n don):(don.map (·.1)).getLast? =u_ n:=by
 rcases(Nw O h).bot with b|⟨_,b⟩
 ·cases b
 ·exact b
def PN (h:Dn qs n don){p:Str×Gp}(O:p∈don):∃s,g0D p.1 (qS qs p.1)=u_ s/\p.2=Sy.it (SyP qs) (Sy.F (SyP qs)) 302 s:=by
 cases U:g0D n (qS qs n) with
 |none=>rw[DV U h] at O;cases O
 |some g=>exact(Nw U h).don p O
def Aap (h:Dn qs n don):(don.map (·.1)).Nodup:=by
 cases O:g0D n (qS qs n) with
 |none=>rw[DV O h];exact vG
 |some g=>exact(Nw O h).nd
end
nonrec def PU (p:Gp):D:= .tup (p.ra++Yr p.run)
nonrec def Sj (p:Gp):D:=p.en.getD .non
def OH:∀{rk:oj (Key×V)}{don:oj (Str×Gp)},(rk.map (·.1)=don.map λp=>UV p.1)->∃vs:oj (Str×V),rk=iW vs/\vs.map (·.1)=don.map (·.1)/\vs.map (·.2)=rk.map (·.2)
 | [],[],_=>⟨[],1,1,1⟩
 | [],_::_,h=>by cases h
 |_::_,[],h=>by cases h
 |(k,v)::r,p::l,h=>by
  injection h with h1 h2
  erw[OH h2,vs,O,U,Z];exists (p.1,v)::vs,?_,?_,?_
  ·rw[Xu,<-O];have h1:k=UV p.1:=h1;rw[h1]
  ·rw[uB,uB,U]
  ·rw[uB,uB,Z]
def Aak {p:Gp}(h:GI p)(O:p.en.isSome=v_):nD (PU p)=v_/\dp (PU p)<=31/\nD (Sj p)=v_/\dp (Sj p)<=20:=by
 have h1:nL (p.ra++Yr p.run)=v_/\dpL (p.ra++Yr p.run)<=30:=by
  cases hr:p.run with
  |none=>exact⟨Ap h.ra.1 rfl,su 30 h.ra.2.1 (by simp[dpL,Yr])⟩
  |some q=>
   erw[q,rs,r];have h2:=(h.run rs r hr).2.1.gs;exact[Ap h.ra.1 h2.1:su 30 h.ra.2.1 h2.2.1]
 refine⟨h1.1,by show 1+_<=31;omega,?_⟩
 unfold Sj;cases U:p.en with
 |none=>rw[U] at O;cases O
 |some d=>
  show nD d=v_/\dp d<=20;rcases h.en d U with⟨z,rfl⟩|⟨x,rfl,Z⟩|⟨z,rfl⟩
  ·exact⟨1,by show dp (.tup [.str "fault",.str z])<=20;simp[dp,dpL]⟩
  ·have:=x9 Z;exists ?_,?_
   ·simp![nD,nL,WD (QY Z),vU]
   ·simp![dp,dpL];omega
  ·exact⟨1,by simp[dp,dpL]⟩
end K35
namespace K35
open PySem L2 PyProof.Rows
structure Sk (CO CP:o3)(H0 H:Hp)(qs:oj (Str×D))(n:Str)(o:Oc)(rk uk fk:oj (Key×V))(don:oj (Str×Gp)):Prop where
 sm:ic H0 H
 oa:OAt CO CP H o qs
 dr:H o.dr=u_ (.dK rk)
 ks:rk.map (·.1)=don.map λp=>UV p.1
 vs:L2.IsL H (don.map λp=>JX p.2) (rk.map (·.2))
 du:H o.du=u_ (.dK uk)
 uo:NH #[Y,[],don] uk
 df:H o.df=u_ (.dK fk)
 fd:BA H #[Y,[],don] fk
 fl:↑fk<=20101
 dn:Dn qs n don
 sg:SGI #[Y,[],don]
 gi:∀p∈don,GI p.2/\p.2.en.isSome=v_
 len:↑don<=20001
 new:H0 o.x=US/\H0 o.dr=US/\H0 o.du=US/\H0 o.df=US
 ne:o.dr≠o.df/\o.du≠o.df
inductive Ox:Sp
 |mk (z:_)(_:vs= [.str z])(_:nm z=v_)(_:∀H',ic H H'->Q .non H')
inductive LP:Sp
 |mk (t:_)(z:_)(_:vs= [.ref t])(_:H t=u_ (.tup [.str z]))(_:nm z=v_)(_:∀H',ic H H'->Q .non H')
inductive LB (CO CP:Addr):Sp
 |mk (px t:Addr)(n:Str)(qs:List (Str×D))(_:vs= [.ref px,.ref t])(_:H t=u_ (.tup [.str n]))(_:nm n=v_)(_:Yb CP H px qs)(_:ye qs)(_:∀H' o rk uk fk don,o.px=px->Sk CO CP H H' qs n o rk uk fk don->↑fk<=20001->Q (.ref o.x) H')
inductive LN (CO CP:Addr):Sp
 |mk (px:Addr)(n:Str)(qs:List (Str×D))(_:vs= [.ref px,.str n])(_:nm n=v_)(_:Yb CP H px qs)(_:ye qs)(_:∀H' o rk uk fk don,o.px=px->Sk CO CP H H' qs n o rk uk fk don->↑fk<=20001->Q (.ref o.x) H')
section
variable {P:o9}{w:og}{K:o0}{mg:Str->om o6}{base:o8}{a:Ad}{g:Ga}
def O6:#[T,2,a.zD,a.zR,["name"],Ox]:=by
 have U:=#[zf,T];exists 9,T.mj,kT,Z
 erw[h,z,rfl,O,k];have hl:=WY O;exists 3,%[|#[qG,#[Qo,#[Qd,#[qu,U,Z.mono (),T.iH,#v[pv 0]]]],%[|ju],qw]]
 exists 0,.str z,.str z,1,Ya (),λH1 s1=>[0:?_]
 have e:mx (.str z)=true:=O;rw[e];exact iS (k H1 s1)
def MM:#[T,3,a.XJ,a.Xf,["names"],LP]:=by
 have O:=#[O6,T];exists 9,T.l7,J6
 erw[h,t,z,rfl,Z,hz,k];exists 3,%[|#[xf,#[Ah,4,pv 0],#[qQ,(1),J6.nd],%[|#[qZ,#[qu,O,hr.mono (),T.mj,#v[pv 1]]]]]]
 exists 0,t,1,[_:SqT.of Z];refine ko (xs:= [.str z]) (λi σ H'=>(∃u,σ= [u_ (.ref t),u])/\ic H H') [⟨0⟩:ic.refl _] (λi σ H' _ h=>SqT.of (h.2 _ _ Z)) ?_ ?_
 ·rintro i x σ H' hx ⟨⟨u,rfl⟩,s1⟩;have U:x= .str z:=by
   cases i with
   |zero=>exact(uL hx).symm
   |succ i=>cases hx
  subst U;exact⟨0,z,1,hz,λH2 s2=>[⟨0⟩:s1.trans s2]⟩
 ·rintro σ H' ⟨_,s1⟩;exact k H' s1
def MA:#[C,14,a.zP,a.zA,["project","names"],(LB a.qo a.qE)]:=by
 have kz:=#[MM,T];have XV:=#[E5,T];have jC:=#[Mp,T,C];exists 9,T.mf,jF
 erw[h,px,t,n,qs,rfl,ht,hn,hP,hq,k1];exists 3,%[#[qZ,#[qu,kz,hr.mono (),T.l7,#v[pv 1]]],#[qC,(2),jF.nd,#[wK,T.M_PlainOrder,XV,T.m_PlainOrder,T.lq,qz,#v[pv 0]]],#[xf,#[Ah,4,pv 1],#[qQ,(3),jF.nd],%[|#[qZ,#[Qg,pv 2,T.qx,T.iG,jC,#v[pv 3]]]]]|#[qp,pv 2]]
 exists 8,N1,q1
 exists 0,t,n,1,ht,hn,λH1 s1=>q1 _ _ ?_;exists 8,N2,q2
 exists 0,λx dx hx aq nx=>?_;have s0:ic H1 (upd (upd H1 dx (.own x)) x (.ins a.qo dx [])):=λb o h=>by rwa[qk (ql h hx),qk (ql h aq)]
 exists x,dx,px,1,qg,λo H2 eo au aw kp tk f1 f2 f3 f4 nd ac ad ae af ag=>[1:q2 _ _ ?_];exists 8,N3,q3;have ax:ic H1 H2:=λb ob h=>kp b ob (s0 b ob h) (ql h hx);have O:=s1.trans ax;have ah:=O _ _ ht;subst eo au aw;have hB:Bs a.qo a.qE H2 o qs:=⟨[ac:hP.same O],[_:ad],[_:ae],[_:af],[_:ag],nd,hq⟩
 exists 0,t,1,[_:SqT.of ah];have fr:∀b,upd (upd H1 o.dx (.own o.x)) o.x (.ins a.qo o.dx []) b=US->H b=none:=λb U=>by
  cases e:H b with
  |none=>rfl
  |some ob=>rw[s0 b ob (s1 b ob e)] at U;cases U
 let J_:Nat->L2.St->Hp->Prop:=λi σ H'=>(∃u,σ= [u_ (.ref o.px),u_ (.ref t),u_ (.ref o.x),u])/\((i=0/\H'=H2)∨(i=1/\∃rk uk fk don,Sk a.qo a.qE H H' qs n o rk uk fk don/\↑fk<=20001))
 refine ko (xs:= [.str n]) J_ [⟨0⟩:.inl [1:1]] (λi σ H' _ h=>?_) ?_ ?_
 ·rcases h.2 with⟨_,rfl⟩|⟨_,rk,uk,fk,don,h,_⟩
  ·exact SqT.of ah
  ·exact SqT.of (h.sm _ _ ht)
 ·rintro i x' σ H' ak ⟨⟨u,rfl⟩,h⟩;have Z:x'= .str n/\i=0:=by
   cases i with
   |zero=>exact[(uL ak).symm:1]
   |succ i=>cases ak
  erw[Z,rfl,rfl];rcases h with⟨_,rfl⟩|⟨z,_⟩
  ·exists 0,o.x,o.dx,0,ac,wV o _ (),0,o,qs,n,1,hB,ad,ae,af,ag,λH3 rk uk fk don j al ay am aA aB aC k3 aD ao aE aF aG ap=>?_
   have out:∀b,H b≠US->b∉LO o:=λb U z=>by
    simp![LO,uG,uH,uO] at z;rcases z with rfl|rfl|rfl|rfl
    ·exact U (fr _ f1)
    ·exact U (fr _ f2)
    ·exact U (fr _ f3)
    ·exact U (fr _ f4)
   have aa:=nd;simp![Uj,uG,uH,uO,UR,vG,and_true,UL] at aa;have Z:H o.x=none:=by
    cases e:H o.x with
    |none=>rfl
    |some ob=>rw[s1 _ _ e] at hx;cases hx
   exact⟨⟨0⟩,.inr ⟨1,rk,uk,fk,don,⟨λb ob e=>k3.kept b ob (O b ob e) (out b (by rw[e];intro z;cases z)),hB.at k3,ao,aE,aF,al,ay,am,aA,(),[j:aD],aC,aG,ap,⟨Z,fr _ f3,fr _ f2,fr _ f4⟩,[aa.2.2:aa.2.1.2]⟩,aB⟩⟩
  ·cases z
 ·rintro σ H' ⟨⟨u,rfl⟩,h⟩;rcases h with⟨z,_⟩|⟨_,rk,uk,fk,don,h,hl⟩
  ·cases z
  ·exact q3 _ _ [0:k1 H' o rk uk fk don rfl h hl]
def MK:#[C,15,a.zY,a.zW,["project","name"],(LN a.qo a.qE)]:=by
 have O:=#[MA,T,C];exists 9,T.mh,kh,U
 erw[h,px,n,qs,rfl,hn,Z,hq,k1];have hs:=uD;exists 3,%[|#[qp,#[qu,O,U.mono (),T.mf,#v[pv 0,#[qB,#v[pv 1]]]]]]
 exists 0,0,(sml rfl),λt ht=>?_;have s1:=qf ht (.tup [V.str n]);exact⟨px,t,n,qs,1,qg,hn,Z.same s1,hq,λH' o rk uk fk don e h hl=>k1 H' o rk uk fk don e ⟨s1.trans h.sm,h.oa,h.dr,h.ks,h.vs,h.du,h.uo,h.df,h.fd,h.fl,h.dn,h.sg,h.gi,h.len,⟨s1.free h.new.1,s1.free h.new.2.1,s1.free h.new.2.2.1,s1.free h.new.2.2.2⟩,h.ne⟩ hl⟩
end
variable {g:Gp}{m:Str}
def Lb (h:GI g)(O:yb g=u_ m):∃kd,jt g= .tup [.str kd,.str m]/\ph kd=false:=by
 unfold yb at O;split at O
 ·rename_i k z e
  by_cases c:ph k=v_
  ·rw[A6 c] at O;cases O
  ·rw[A4 c] at O;cases O;exact⟨k,e,by simpa using c⟩
 ·cases O
nonrec def AaL (z:Str):D:= .tup [.str "stuck",.str z]
nonrec def Aa2 (z:Str):D:= .tup [.str "asks",.tup [.str "thing",.str z]]
nonrec def Hs (src:D)(pre:oj D)(rl:D):Prop:=(src= .tup [.str "rule",rl]/\pre= [])∨∃z:Str,src= .tup [.str "made",.str z]/\pre= [.tup [.tup [.str "rule",.str z],rl]]
inductive IG (src:D)(p:Gp):Prop
 |wait (z:Str)(h0:src= .tup [.str "made",.str z])(h1:p.mb= .str z)(h2:p.run=US)(h3:p.ra= [])(h4:p.en=US∨p.en=u_ (AaL z)):IG src p
 |lack (pre:List D)(rl:D)(h0:Hs src pre rl)(h1:p.ra=pre)(h2:p.run=US)(h3:Yz rl=v_)(h4:p.en=u_ (flt "lack")):IG src p
 |bad (pre:List D)(rl:D)(h0:Hs src pre rl)(h1:p.ra=pre)(h2:p.run=US)(h3:Yz rl=UT)(h5:QI rl=US)(h4:p.en=u_ (flt "rule")):IG src p
 |run (pre:List D)(rl:D)(rs:List Rw)(r:Rn)(h0:Hs src pre rl)(h1:p.ra=pre)(h2:p.run=u_ (rs,r))(h3:Yz rl=UT)(h5:QI rl=u_ rs)(h4:p.en=lC r∨∃z,p.en=u_ (AaL z)/\r.th=Aa2 z):IG src p
variable {src:D}
def KK {pre:oj D}{rl:D}(h:g.run=US)(hs:Hs src pre rl)(hp:g.ra=pre):IG src (me g rl)/\(me g rl).n=g.n:=by
 cases hn:Yz rl with
 |true=>
  have O:me g rl={g with en:=u_ (flt "lack")}:=A6 hn
  rw[O];exact[.lack pre rl hs hp h hn rfl:1]
 |false=>
  have U:¬Yz rl=true:=by rw[hn];exact uc
  cases Z:QI rl with
  |none=>
   have O:me g rl={g with en:=u_ (flt "rule")}:=by unfold me;rw[A4 U,Z]
   rw[O];exact[.bad pre rl hs hp h hn Z rfl:1]
  |some rs=>
   have O:me g rl={g with run:=u_ (rs,R0 rs g.n),en:=lC (R0 rs g.n)}:=by unfold me;rw[A4 U,Z]
   rw[O];exact[.run pre rl rs _ hs hp rfl hn Z (.inl rfl):1]
section
variable {qs:oj (Str×D)}
def Aad (Z:ye qs)(h:g0D m (qS qs m)=u_ g):IG (qS qs m) g:=by
 have hm:m∈qs.map (·.1):=(QZ qs).gn m g h;erw[JG Z hm,_,k,e,hd,h1,h2];rw[hd] at h⊢;have h:(if k="leaf" then US else if k="made" then u_ (⟨m,e,[],US,US⟩:Gp) else u_ (me ⟨m,.non,[],US,US⟩ e))=u_ g:=h
 by_cases U:k="leaf"
 ·rw[A6 U] at h;cases h
 rw[A4 U] at h;by_cases O:k="made"
 ·rw[A6 O] at h;cases h;erw[h1 O,z,rfl,_];subst O;exact .wait z rfl rfl rfl rfl (.inl rfl)
 ·rw[A4 O] at h;cases h;have hk:k="rule":=by
   rcases(h2 O).1 with h|h
   ·exact A8 h U
   ·exact h
  subst hk;exact(KK (g:=⟨m,.non,[],US,US⟩) rfl (.inl [1:1]) rfl).1
def Nj (hq:ye qs)(h:GI g)(hi:IG src g):IG src (Sy.step (SyP qs) (FP qs) g):=by
 rw[BO];cases he:g.en with
 |some d=>exact hi
 |none=>
  simp![Hj,A4 uc];cases hi with
  |lack pre rl h0 h1 h2 h3 h4=>rw[he] at h4;cases h4
  |bad pre rl h0 h1 h2 h3 h5 h4=>rw[he] at h4;cases h4
  |wait z h0 h1 h2 h3 h4=>
   have hw:yb g=u_ z:=by
    unfold yb jt;rw[h2]
    try dsimp only
    rw[h1]
    try dsimp only
    exact A4 ()
   rw[hw]
   try dsimp only
   cases hF:FP qs z with
   |none=>exact .wait z h0 h1 h2 h3 (.inr rfl)
   |some y=>
    have e:Q3 g (y.getD .non)=me {g with ra:= [.tup [.tup [.str "rule",g.mb],y.getD .non]]} (y.getD .non):=by unfold Q3;rw[h2]
    show IG src (Q3 g (y.getD .non));rw[e];exact(KK (g:={g with ra:= [.tup [.tup [.str "rule",g.mb],y.getD .non]]}) h2 (.inr ⟨z,h0,by rw[h1]⟩) rfl).1
  |run pre rl rs r h0 h1 h2 h3 h5 h4=>
   have tk:∀d,IG src (Q3 g d):=λd=>by
    have e:Q3 g d={g with run:=u_ (rs,mt rs g.n r d),en:=lC (mt rs g.n r d)}:=by unfold Q3;rw[h2]
    rw[e];exact .run pre rl rs _ h0 h1 rfl h3 h5 (.inl rfl)
   cases hw:yb g with
   |none=>
    erw[Zj (qs:=qs) h he hw,aa,r',k,z,ac,ad,hk,_,e];show IG src (mW qs g);rw[e];exact tk _
   |some m=>
    try dsimp only
    cases hF:FP qs m with
    |some y=>exact tk _
    |none=>
     erw[Lb h hw,kd,U,hk];have Z:=(h.run rs r h2).2.2;unfold jt at U;rw[h2] at U;have U:Zd r.th= .tup [.str kd,.str m]:=U;have O:=Z.2 he;refine .run pre rl rs r h0 h1 h2 h3 h5 (.inr [m:1:?_]);rcases Z.1 with⟨z,e1⟩|⟨e0,e1,_⟩|⟨u,z,e1,_,hu⟩
     ·rw[e1] at O;exact A8 (show decide (("fault":Str)="asks")=v_ from O) ()
     ·rw[e1] at O;exact A8 (show decide (("said":Str)="asks")=v_ from O) ()
     ·rw[e1] at U⊢;have U:D.tup [.str u,.str z]= .tup [.str kd,.str m]:=U;cases U;rcases hu with rfl|⟨rfl|rfl,_⟩
      ·exact A8 hk ()
      ·rfl
      ·exact A8 hk ()
def Ot (g:Gp):(Sy.step (SyP qs) (FP qs) g).n=g.n:=by
 rw[BO];split
 ·rfl
 ·split
  ·exact OV qs g
  ·split
   ·exact BJ g _
   ·rfl
def Pu (O:ye qs){src:D}:∀(k:Nat) {g:Gp},GI g->GA g->IG src g->IG src (itP qs k g)/\(itP qs k g).n=g.n
 |0,g,h,ha,t=>[t:1]
 |k+1,g,h,ha,t=>by
  erw[pq O (Sn O) h ha,h1,h2];erw[Pu O k h1 h2 (Nj O h t),U,Z];exact[U:Z.trans (Ot g)]
end
variable {qs:oj (Str×D)}
def oy {s:Gp}(O:g0D m (qS qs m)=u_ s):(itP qs 302 s).en.isSome=true:=Sy.it_end (Y:=SyP qs) (QZ qs) 302 s ((QZ qs).l0 m s O)
def Nf {f:Sy.Orc}{n:Str}{p:Gp}{k:Nat}(O:g0D n (qS qs n)=u_ g)(h:Sy.it (SyP qs) f k g=p)(U:p.en.isSome=v_):Sy.it (SyP qs) f 302 g=p:=by
 have h1:(SyP qs).fin (Sy.it (SyP qs) f k g)=true:=by rwa[h]
 rw[<-h];exact Sy.it_one (Sy.it_end (QZ qs) 302 g ((QZ qs).l0 n g O)) h1
def Do {f:Sy.Orc}{p:Gp}{k:Nat}(h:Sy.it (SyP qs) f k g=p):Sy.it (SyP qs) f (k+1) g=Sy.step (SyP qs) f p:=(Sy.it_snoc (Y:=SyP qs) (f:=f) k g).trans (A9 (Sy.step (SyP qs) f) h)
def pk {f:Sy.Orc}{p:Gp}(O:p.en=US)(U:yb p=u_ m):Sy.step (SyP qs) f p=match f m with
  |some a=>Q3 p (a.getD .non)
  |none=>Ei p m:=by
 have e:Sy.step (SyP qs) f p=if p.en.isSome=v_ then p else match yb p with
  |none=>mW qs p
  |some m=>match f m with
   |some a=>Q3 p (a.getD .non)
   |none=>Ei p m:=rfl
 rw[e,O,U]
 rfl
def Ln {f:Sy.Orc}{p:Gp}(O:p.en=US)(U:yb p=US):Sy.step (SyP qs) f p=mW qs p:=by
 have e:Sy.step (SyP qs) f p=if p.en.isSome=v_ then p else match yb p with
  |none=>mW qs p
  |some m=>match f m with
   |some a=>Q3 p (a.getD .non)
   |none=>Ei p m:=rfl
 rw[e,O,U]
 rfl
nonrec def Nv (p:Gp):D:= .tup [(match p.run with|none=> .non|some q=>Yp q.1),.tup [.tup (Yr p.run),p.en.getD .non]]
nonrec def Bp (d:D):Bool:=match d with
 | .tup (.str k::_)=>decide (k="stuck")
 |_=>UT
nonrec def pf (n:Str)(p:Gp):D:=match p.run with
 |none=> .non
 |some q=>if Bp (p.en.getD .non)=v_ then .non else .tup [Yp q.1,.str n,.tup [.tup (Yr p.run),p.en.getD .non]]
nonrec def Eh (qs:oj (Str×D)) (n:Str):D:=match g0D n (qS qs n) with
 |none=> .non
 |some s=>pf n (itP qs 302 s)
def DP (hq:ye qs){s:Gp}(O:g0D m (qS qs m)=u_ s):∃k x,(itP qs 302 s).en=u_ (.tup [.str k,x]):=by
 have U:=oy O;cases Z:(itP qs 302 s).en with
 |none=>rw[Z] at U;cases U
 |some e=>
  rcases(oz hq O 302).1.en e Z with⟨z,rfl⟩|⟨v,rfl,_⟩|⟨z,rfl⟩
  ·exact[_:0]
  ·exact[_:0]
  ·exact[_:0]
def Pv (O:ye qs){s:Gp}(U:g0D m (qS qs m)=u_ s):IG (qS qs m) (itP qs 302 s):=(Pu O 302 (DB O U).1 (No U).1 (Aad O U)).1
nonrec def wbD (rl:D)(n:Str)(rd:D):D:=if(QI rl).isSome=v_ then .tup [rl,.str n,rd] else .non
inductive Ey:Sp
 |mk (rv tv:V)(rl rd:D)(n:Str)(_:vs= [rv,.str n,tv])(_:Is H rl rv)(_:Is H rd tv)(_:↑n<=100)(_:∀v H',ic H H'->Is H' (wbD rl n rd) v->Q v H')
inductive B7:Sp
 |mk (v:V)(d:D)(_:vs= [v])(_:Is H d v)(_:(d= .non∨∃k e,d= .tup [.str k,e]))(_:∀H',ic H H'->Q (.bl (Yz (YY d))) H')
inductive Ex (CO CP:Addr):Sp
 |mk (o:Oc)(n:Str)(qs:List (Str×D))(H0:Hp)(rk uk fk:List (Key×V))(don:List (Str×Gp))(s:Gp)(_:vs= [.ref o.x,.str n])(_:nm n=v_)(_:Sk CO CP H0 H qs n o rk uk fk don)(_:ye qs)(_:g0D n (qS qs n)=u_ s)(_:∀v H',ic H H'->Is H' (pf n (itP qs 302 s)) v->Q v H')
inductive Ew (CP:Addr):Sp
 |mk (px:Addr)(n:Str)(qs:List (Str×D))(_:vs= [.ref px,.str n])(_:nm n=v_)(_:Yb CP H px qs)(_:ye qs)(_:∀v H',ic H H'->Is H' (Eh qs n) v->Q v H')
def Sw {p:Gp}{n ek:Str}{ex:D}(h:IG src p)(O:p.en=u_ (.tup [.str ek,ex]))(ck:¬ek="stuck"):∃pre rl,Hs src pre rl/\p.ra=pre/\wbD rl n (.tup [.tup (Yr p.run),p.en.getD .non])=pf n p:=by
 have U:Bp (p.en.getD .non)=false:=by rw[O];exact uf ck
 have no:∀rl,QI rl=US->p.run=US->wbD rl n (.tup [.tup (Yr p.run),p.en.getD .non])=pf n p:=λrl h1 h2=>by
  unfold wbD pf;rw[h1,h2]
  rfl
 cases h with
 |wait z h0 h1 h2 h3 h4=>
  rcases h4 with h4|h4
  ·rw[O] at h4;cases h4
  ·rw[O] at h4;injection h4 with h4
   injection h4 with h4
   injection h4 with h4 _
   injection h4 with h4
   exact A8 h4 ck
 |lack pre rl h0 h1 h2 h3 h4=>
  exists pre,rl,h0,h1,no rl ?_ h2;cases rl with
  |non=>decide+kernel
  |_=>cases h3
 |bad pre rl h0 h1 h2 h3 h5 h4=>exact⟨pre,rl,h0,h1,no rl h5 h2⟩
 |run pre rl rs r h0 h1 h2 h3 h5 h4=>
  exists pre,rl,h0,h1;erw[W7 h5,_,Z];unfold wbD pf;rw[h5,h2]
  try dsimp only
  rw[U,A4 uc,Z];exact A6 rfl
section
variable {P:o9}{w:og}{K:o0}{mg:Str->om o6}{base:o8}{a:Ad}{g:Ga}
def E2:#[C,6,a.f_way_by,a.d_way_by,["rule","own","run"],Ey]:=by
 have Jz:=#[ZO,T,C];exists 9,T.mK,Cd,O
 erw[h,rv,tv,rl,rd,n,rfl,U,it,hn,k];have hs:=uD;exists 3,%[|#[qp,#[Q4,#[Qd,#[qu,Jz,O.mono (),T.lW,#v[pv 0]]],#[qB,#v[pv 0,pv 1,pv 2]],qP]]]
 exists 0,rv,rl,1,U,λH1 s1=>[0:?_];cases O:(QI rl).isSome with
 |true=>
  rw[A6 rfl]
  exists 0,0,0,sml rfl,λt Z=>?_;have m1:=qf Z (.tup [rv,V.str n,tv]);refine k _ _ (s1.trans m1) ?_;unfold wbD;rw[A6 O];exact Is.new (ds:= [rl,.str n,rd]) ⟨_,0,U.mono s1.tk,_,0,Ya (),_,0,it.mono s1.tk,1⟩ Z
 |false=>
  rw[A4 uc];refine k _ _ s1 ?_;unfold wbD;rw[A4 (by rw[O];exact uc)]
  exact rfl
def CS:#[T,2,a.f_has_run,a.d_has_run,["source"],B7]:=by
 have Z:=#[CL,T];exists 9,T.mU,Bc
 erw[h,v,d,rfl,iv,hd,k];have hs:=uD;exists 3,%[|#[qp,#[yT,yL,#[qu,Z,hr.mono (),T.iI,#v[pv 0]],qP,qA _]]]
 exists 0,v,d,1,iv,hd,λu H1 s1 O=>[1:?_];have e:decide (u=V.non)=Yz (YY d):=by
  cases hd:Yz (YY d) with
  |true=>
   cases U:YY d with
   |non=>rw[U] at O;exact ud O
   |_=>rw[U] at hd;cases hd
  |false=>exact uf (JC O λz=>by rw[z] at hd;cases hd)
 rw[e];exact k _ s1
def E1:#[C,7,a.f_way_in,a.d_way_in,["order","name"],(Ex a.qo a.qE)]:=by
 have O:=#[E2,T,C];have qL:=#[yP,T];refine T.oH.F.ok Z8 () (λ_ _ _ _ H vs Q E hr h=>?_)
 erw[h,o,n,qs,H0,rk,uk,fk,don,sg,rfl,hn,hO,hq,hg,k];have hs:=uD;erw[OH hO.ks,vs,e1,e2,e3];have hk:vs.map (·.1)=(don.map λq=>(q.1,JX q.2)).map (·.1):=by rw[e2,uU];rfl
 have hi:L2.IsL H ((don.map λq=>(q.1,JX q.2)).map (·.2)) (vs.map (·.2)):=by rw[e3,uU];exact hO.vs
 have ak:=hO.dr;rw[e1] at ak;have he:=hO.oa.e;have ag:=List.mem_of_getLast? (Nx hg hO.dn);have l:∃rv,Is H (JX (itP qs 302 sg)) rv/\iK (iW vs) (UV n)=u_ rv:=by
  erw[Ae.mp ag,[m,p],al,rfl];have au:m∈(don.map λq=>(q.1,JX q.2)).map (·.1):=by rwa[uU]
  erw[n9 hk hi au,l1,l2];have hd:qS (don.map λq=>(q.1,JX q.2)) m=JX p:=AH (by rw[uU];exact Aap hO.dn) (Ae.mpr [(m,p):al:1])
  rw[hd] at l2;erw[PN hO.dn al,s0,f1,f2];have f1:g0D m (qS qs m)=u_ s0:=f1;have hg:g0D m (qS qs m)=u_ sg:=hg;rw[hg] at f1;cases f1;have f2:p=itP qs 302 sg:=f2;rw[f2] at l2;exact[_:l2:l1]
 erw[l,rv,l2,l1];erw[DP hq hg,ek,ex,U];have am:=Pv hq hg;have aw:=(oz hq hg 302).1;generalize itP qs 302 sg=p at l2 U am aw k;have aL:=WY hn;unfold JX at l2;rw[U] at l2;erw[l2,tr,ur,rfl,aa,v1,r1,rfl,iA,v2,r2,rfl,iE,ax];cases(show r2= [] from ax)
 erw[id iE,tE,uE,rfl,ay,y1,aM,rfl,[rfl,_],y2,aA,rfl,aN,aB];cases(show aA= [] from aB)
 exists 3,%[#[qC,(2),Z8.nd,#[Qt,#[qO,5,pv 0,rfl],pv 1]],#[qG,#[qr,Qq,#[qI,qF,#[qI,qF,pv 2,qh],qh],qj],%[|#[qp,qP]],qw],#[qC,(3),Z8.nd,#[Qg,#[qO,5,pv 0,rfl],T.QS,T.ii,qL,#v[pv 1]]],#[qG,#[qr,Qq,#[qI,qF,pv 3,qh],qj],%[|#[qp,#[qu,O,hr.mono (),T.mK,#v[#[qI,qF,pv 3,qh],pv 1,pv 2]]]],qw]|#[qp,#[qu,O,hr.mono (),T.mK,#v[#[qI,qF,#[qI,qF,#[qI,qF,pv 2,qh],qh],qh],pv 1,#[qB,#v[#[Xn,pw,#[qI,qF,pv 2,qh],#[XT,qh],Zu],#[qI,qF,pv 2,qh]]]]]]]
 exists 8,N1,q1
 exists 0,o.x,_,o.dx,_,0,he,T.qx,T.QX,O8 o,0,o.dr,0,(by rw[<-l1];exact mJ.k (k:=UV n) ak),q1 _ _ ?_
 exists 8,N2,q2
 exists 0,tr,_,_,0,1,SqT.of aa,qU (j:=1) rfl,tE,_,_,0,1,SqT.of ay,qU (j:=0) rfl,1,0;by_cases ck:ek="stuck"
 ·refine lP (by rw[ck,ud rfl]) (k _ _ (ic.refl _) ?_)
  have:pf n p= .non:=by
   unfold pf;cases p.run with
   |none=>rfl
   |some q=>
    try dsimp only
    rw[U,ck];exact A6 rfl
  rw[this];exact rfl
 refine lr (by rw[uf (λz=>ck (V.str.inj z))]) (q2 _ _ ?_)
 have aO:Bp (p.en.getD .non)=false:=by
  rw[U];exact uf ck
 exists 8,N3,q3;have aC:n∈qs.map (·.1):=(QZ qs).gn n sg hg;erw[Sw am U ck,pre,rl,aD,aE,ao];erw[id hO.oa.p,aF,dp,op,aP,hx,hd,aQ,hv]
 exists 0,o.x,_,o.dx,_,0,he,T.qx,T.qX,Il o
 exists o.px,aF,0,hx,yp,0,o.px,n,qs,1,hO.oa.p,λsv h1 h2=>q3 _ _ ?_;have ae:=h1 aC;exists 8,N4,q4;rw[aE] at iA;rcases aD with⟨e0,ac⟩|⟨z,e0,ac⟩
 ·rw[e0] at ae;erw[ae,ts,us,rfl,af,w1,s1,rfl,[rfl,_],w2,s2,rfl,ap,ah];cases(show s2= [] from ah)
  rw[ac] at iA;have iA:Is H (.tup (Yr p.run)) v1:=iA
  exists 0,ts,_,_,0,1,SqT.of af,qU (j:=0) rfl,1,0,lP (ud rfl) ?_
  exists 0,ts,_,_,0,1,SqT.of af,qU (j:=1) rfl,0,0,w2,.ref tr,rl,.tup [.tup (Yr p.run),p.en.getD .non],n,1,ap,⟨tr,0,aa,_,0,iA,_,0,(by rwa[U]),1⟩,(),λv H1 s1 i1=>?_
  rw[ao] at i1;exact k _ _ s1 i1
 ·rw[e0] at ae;erw[ae,ts,us,rfl,af,w1,s1,rfl,[rfl,_],w2,s2,rfl,ap,ah];cases(show s2= [] from ah)
  rw[ac] at iA
  exists 0,ts,_,_,0,1,SqT.of af,qU (j:=0) rfl,1,0,lr (uf (λy=>by have:=V.str.inj y;revert this;decide+kernel)) (q4 _ _ ?_)
  erw[id iA,ta,ua,rfl,aq,x1,ad,rfl,aG,Z];erw[id aG,tb,ub,rfl,aH,x2,aR,rfl,aS,x3,aI,rfl,aJ,aK];cases(show aI= [] from aK)
  exists 0,tr,_,_,0,1,SqT.of aa,qU (j:=0) rfl,ta,_,_,0,1,SqT.of aq,qU (j:=0) rfl,tb,_,_,0,1,SqT.of aH,qU (j:=1) rfl,0;have Z:L2.IsL H (Yr p.run) ad:=Z
  exists 0,tr,_,_,0,1,SqT.of aa,qU (j:=0) rfl,0,ta,0,SqT.of aq,λhw=>?_,λ_ pp hp=>?_
  ·exfalso;have h1:=hw.1;have h1:HT.sIx ↑(_::ad) 0 (u_ ((1:Nat):Int))=0:=h1;rw[HT.sIx_nat] at h1;rw[um] at h1;omega
  ·have hc:AK (V.ref tb::ad) (u_ 1) US=ad:=by
    rw[show(u_ (1:Int))=u_ ((1:Nat):Int) from rfl,Z5 (by rw[um];omega)]
    rfl
   rw[hc];have m1:=qf hp (.tup ad)
   exists 0,tr,_,_,0,1,SqT.of (m1 _ _ aa),qU (j:=1) rfl,sml rfl,λt2 h2=>?_;have m2:=qf h2 (.tup [.ref pp,.ref tE])
   exists x3,.ref t2,rl,.tup [.tup (Yr p.run),p.en.getD .non],n,1,aJ.mono (m1.trans m2).tk,Is.new (ds:= [.tup (Yr p.run),p.en.getD .non]) ⟨_,0,⟨pp,0,qg,Z.mono m1.tk⟩,_,0,(by rw[U];exact iE.mono m1.tk),1⟩ h2,(),λv H1 s1 i1=>?_
   rw[ao] at i1;exact k _ _ ((m1.trans m2).trans s1) i1
def EZ:#[C,16,a.f_way_of,a.d_way_of,["project","name"],(Ew a.qE)]:=by
 have U:=#[CS,T];have qL:=#[yP,T];have O:=#[MK,T,C];have Z:=#[E1,T,C];exists 9,T.oG,Cc
 erw[h,px,n,qs,rfl,hn,hP,hq,k];have hs:=uD;erw[id hP,aa,dp,op,af,hx,_];exists 3,%[#[qG,#[Qo,#[Qd,#[qu,U,hr.mono (),T.mU,#v[#[Qg,pv 0,T.QS,T.ii,qL,#v[pv 1]]]]]],%[|#[qp,qP]],qw]|#[qp,#[qu,Z,hr.mono (),T.oH,#v[#[qu,O,hr.mono (),T.mh,#v[pv 0,pv 1]],pv 1]]]]
 exists 8,N1,q1
 exists 0,px,aa,0,hx,yp,0,px,n,qs,1,hP,λsv h1 h2=>?_;have ac:∃d,Is H d sv/\(d= .non∨∃k e,d= .tup [.str k,e])/\Yz (YY d)=(g0D n (qS qs n)).isSome:=by
  by_cases c:n∈qs.map (·.1)
  ·erw[JG hq c,_,kk,e,hd,_]
   exists _,h1 c,.inr [kk:e:hd];rw[hd];unfold YY g0D
   try dsimp only
   by_cases ck:kk="leaf"
   ·rw[A6 ck,A6 ck];rfl
   ·rw[A4 ck,A4 ck];split<;>rfl
  ·exists .non,h2 c,.inl rfl;cases hg:g0D n (qS qs n) with
   |none=>rfl
   |some s=>exact A8 ((QZ qs).gn n s hg) c
 erw[ac,d,ad,hd,ae]
 exists sv,d,1,ad,hd,λH1 s1=>[0:?_];rw[ae];unfold Eh at k;cases hg:g0D n (qS qs n) with
 |none=>
  rw[hg] at k;exact i9 (k _ _ s1 rfl)
 |some s=>
  rw[hg] at k;refine iS (q1 _ _ ?_)
  exists 0,0,px,n,qs,1,hn,hP.same s1,hq,λH2 o rk uk fk don _ hO _=>⟨0,o,n,qs,H1,rk,uk,fk,don,s,1,hn,hO,hq,hg,λv H3 s3 i3=>?_⟩;exact k _ _ ((s1.trans hO.sm).trans s3) i3
nonrec def wQ (H:Hp)(d:o3)(ps:oj (Str×D)):Prop:=∃vs:oj (Str×V),H d=u_ (.dK (iW vs))/\vs.map (·.1)=ps.map (·.1)/\L2.IsL H (ps.map (·.2)) (vs.map (·.2))
variable {H H':Hp}
def wQ.same {d:o3}{ps:oj (Str×D)}(h:wQ H d ps)(s:ic H H'):wQ H' d ps:=by
 erw[h,vs,h1,h2,h3];exact⟨vs,s _ _ h1,h2,h3.mono s.tk⟩
nonrec def SA:om (om D)->D
 |none=> .tup [.bl UT,.non]
 |some a=> .tup [.bl v_,a.getD .non]
structure ROk (qs:oj (Str×D))(es:oj (Str×D)):Prop where
 nd:(es.map (·.1)).Nodup
 run:∀e∈es,∃s,g0D e.1 (qS qs e.1)=u_ s/\e.2=Nv (itP qs 302 s)
structure Aft (qs:oj (Str×D))(ws:oj Str)(rd:o3)(H H':Hp)(es es':oj (Str×D)):Prop where
 kp:Kp [rd] H H'
 tb:wQ H' rd es'
 ok:ROk qs es'
 sub:∀e∈es,e∈es'
 no:∀y∈ws,y∈es'.map (·.1)->y∈es.map (·.1)
variable {ws:oj Str}{rd:o3}{es:oj (Str×D)}
def Aft.refl (h:wQ H rd es)(k:ROk qs es)(s:ic H H'):Aft qs ws rd H H' es es:=⟨Kp.of s,h.same s,k,λ_ h=>h,λ_ _ h=>h⟩
variable {H1 H2:Hp}{O:oj (Str×D)}
def Aft.trans {U:oj (Str×D)}(h:Aft qs ws rd H H1 es O)(k:Aft qs ws rd H1 H2 O U):Aft qs ws rd H H2 es U:=⟨h.kp.trans k.kp,k.tb,k.ok,λe he=>k.sub e (h.sub e he),λy Z hz=>h.no y Z (k.no y Z hz)⟩
def Aft.same (h:Aft qs ws rd H H1 es O)(s:ic H1 H2):Aft qs ws rd H H2 es O:=h.trans (Aft.refl h.tb h.ok s)
inductive Zk (CP:Addr)(n:Nat):Sp
 |mk (k:Nat)(px wl rd:Addr)(m:Str)(qs es:List (Str×D))(ws:List Str)(s:Gp)(_:n=k+1)(_:vs= [.ref px,.str m,.ref wl,.ref rd])(_:Yb CP H px qs)(_:ye qs)(_:H wl=u_ (.lst (ws.map V.str)))(_:∀y∈ws,y=m∨Sy.Wts (SyP qs) y m)(_:ws.Nodup)(_:61<=k+↑ws)(_:wQ H rd es)(_:ROk qs es)(_:g0D m (qS qs m)=u_ s)(_:∀v H' es',Aft qs ws rd H H' es es'->Is H' (Nv (itP qs 302 s)) v->Q v H')
inductive Xv (CP:Addr)(n:Nat):Sp
 |mk (px wl rd:Addr)(m:Str)(qs es:List (Str×D))(ws:List Str)(_:vs= [.ref px,.str m,.ref wl,.ref rd])(_:Yb CP H px qs)(_:ye qs)(_:H wl=u_ (.lst (ws.map V.str)))(_:∀y∈ws,Sy.Wts (SyP qs) y m)(_:ws.Nodup)(_:61<=n+↑ws)(_:wQ H rd es)(_:ROk qs es)(_:nm m=v_)(_:∀v H' es',Aft qs ws rd H H' es es'->(m∉ws->∀s,g0D m (qS qs m)=u_ s->m∈es'.map (·.1))->Is H' (SA (FP qs m)) v->Q v H')
def NZ {y:Str}(h:Sy.Wts (SyP qs) y m):y∈qs.map (·.1):=by
 induction h with
 |one w=>erw[w,g,_,O,_];exact(QZ qs).gn _ g O
 |more _ _ U=>exact U
def pU:∀{l m:oj Str},l.Nodup->(∀x∈l,x∈m)->↑l<=↑m
 | [],m,_,_=>uW _
 |x::r,m,hn,hs=>by
  rw[Uj] at hn;have O:=hs x ui;have h:=pU (l:=r) (m:=m.erase x) hn.2 (λy U=>(List.mem_erase_of_ne (λz=>hn.1 (by rwa[<-z]))).mpr (hs y (uh _ U)))
  rw[List.length_erase_of_mem O] at h;have:0<↑m:=List.length_pos_of_mem O;rw[um];omega
def ROk.few (h:ROk qs es)(O:ye qs):↑es<=60:=by
 have:=pU h.nd (m:=qs.map (·.1)) λx U=>by
  erw[Ae.mp U,e,Z,rfl];erw[h.run e Z,s,hs,_];exact(QZ qs).gn _ s hs
 rw[ue,ue] at this;exact uQ this O.2.2
def nU (T:Tx K mg a)(C:Fx K w mg g a)(n:Nat)(O:FnOk P w K mg base CX0 (2*n+9) a.JU a.JO ["project","name","way","runs"] (Zk a.qE n)):FnOk P w K mg base CX0 (2*n+10) a.jq a.jG ["project","name","way","runs"] (Xv a.qE n):=by
 have qL:=#[yP,T];refine T.li.F.ok j7 () (λ_ _ _ s H vs Q E hr h=>?_)
 erw[h,px,wl,rd,m,qs,es,ws,rfl,hP,hq,aw,ak,aN,a2,hT,hR,hm,k];have hs:=uD;erw[id hP,aO,dp,op,a3,hx,_];exists 3,%[#[qC,(4),j7.nd,#[Qg,pv 0,T.QS,T.ii,qL,#v[pv 1]]],#[qG,#[qr,yL,pv 4,qP],%[|#[qp,#[qB,#v[jw,qP]]]],qw],#[qG,#[qr,Qq,#[qI,qF,pv 4,qh],qj],%[|#[qp,#[qB,#v[jw,#[qI,qF,pv 4,qh]]]]],qw],#[qG,#[qr,8,QT,pv 1,pv 2,#[w]],%[|#[qp,#[qB,#v[jw,qP]]]],qw],#[qG,#[pt_cmp,#[Co,5,QU hr,pv 1,pv 3]],%[|#[Jp,pv 3,pv 1,#[qu,O,hr.mono (),T.md,#v[pv 0,pv 1,#[qY,ww,pv 2,#[QF,#v[pv 1]]],pv 3]]]],qw],#[qC,(5),j7.nd,#[qI,qF,#[qI,qF,#[Qt,pv 3,pv 1],qh],qh]],#[qG,#[qr,Qq,#[qI,qF,pv 5,qh],qj],%[|#[qp,#[qB,#v[jw,#[qI,qF,pv 5,qh]]]]],qw]|#[qp,#[qB,#v[jw,qP]]]]
 exists 8,N1,q1
 exists 0,px,aO,0,hx,yp,0,px,m,qs,1,hP,λsv h1 h2=>q1 _ _ ?_;exists 8,N2,q2
 exists 0,1,0;by_cases c:m∈qs.map (·.1)
 ·have ax:=h1 c;erw[JG hq c,_,kk,e,hd,aP,a1];rw[hd] at ax;erw[ax,ts,us,rfl,ay,w1,r1,rfl,[rfl,_],w2,r2,rfl,ie,al];cases(show r2= [] from al)
  refine lr (uf (λz=>by cases z)) (q2 _ _ ?_)
  exists 8,N3,q3
  exists 0,ts,_,_,0,1,SqT.of ay,qU (j:=0) rfl,1,0;by_cases ck:kk="leaf"
  ·refine lP (by rw[ck,ud rfl]) ?_
   exists 0,ts,_,_,0,1,SqT.of ay,qU (j:=1) rfl,sml rfl,λt U=>?_;have hg:g0D m (qS qs m)=none:=by rw[hd];unfold g0D;dsimp only;exact A6 ck
   have hF:FP qs m=u_ (u_ e):=(Sy.F_once (QZ qs) hg).trans (by show u_ (pM (qS qs m))=_;rw[hd];rfl)
   refine k _ _ es (Aft.refl hT hR (qf U _)) (λ_ s hs=>by rw[hg] at hs;cases hs) ?_
   rw[hF];exact Is.new (ds:= [.bl v_,e]) ⟨_,0,1,_,0,ie,1⟩ U
  refine lr (by rw[uf (λz=>ck (V.str.inj z))]) (q3 _ _ ?_)
  obtain⟨sg,hg⟩:∃gp,g0D m (qS qs m)=u_ gp:=by
   rw[hd];unfold g0D
   try dsimp only
   rw[A4 ck];split<;>exact⟨0⟩
  have aQ:FP qs m=(Ze (itP qs 302 sg)).map some:=Sy.F_run (QZ qs) hg;exists 8,N4,q4
  exists 0,0,wl,0,.inl (SqL.of aw),1,Xh _,0;have aA:inV (V.str m) (ws.map V.str)=decide (m∈ws):=zk _ _;by_cases cw:m∈ws
  ·refine lP (aA.trans (ud cw)) ?_
   exists sml rfl,λt U=>?_;have hF:FP qs m=none:=Sy.wx (QZ qs) (ak m cw);refine k _ _ es (Aft.refl hT hR (qf U _)) (λz=>A8 cw z) ?_;rw[hF];exact Is.new (ds:= [.bl UT,.non]) ⟨_,0,1,_,0,1,1⟩ U
  refine lr (aA.trans (uf cw)) (q4 _ _ ?_);exists 8,N5,q5;erw[DP hq hg,ek,ex,aB];have aC:∀H' es',Aft qs ws rd H H' es es'->m∈es'.map (·.1)->N5 [u_ (.ref px),u_ (.str m),u_ (.ref wl),u_ (.ref rd),u_ (.ref ts),US] H':=by
   intro H1 es' Z af;refine q5 _ _ ?_;exists 8,N6,q6;erw[id Z.tb,vs,am,ao,ap];erw[n9 ao ap af,l1,l2];erw[Ae.mp af,[m',d'],aD,rfl];rw[AH Z.ok.nd aD] at l2;erw[Z.ok.run _ aD,s',ag,aq];have ag:g0D m' (qS qs m')=u_ s':=ag;have aR:g0D m' (qS qs m')=u_ sg:=hg;rw[aR] at ag;cases ag;have aq:d'=Nv (itP qs 302 sg):=aq;rw[aq] at l2;unfold Nv at l2;rw[aB] at l2;erw[l2,t1,u1,e1,aS,x1,s1,rfl,a4,x2,s2,rfl,[t2,u2,rfl,aT,x3,s3,rfl,a5,x4,s4,rfl,[t3,u3,rfl,aE,x5,s5,rfl,[rfl,_],x6,s6,rfl,aU,aV],aW],al];cases(show s2= [] from al)
   cases(show s4= [] from aW)
   cases(show s6= [] from aV)
   rw[e1] at l1
   exists 0,0,rd,0,(by rw[<-l1];exact mJ.k (k:=UV m') am),t1,_,_,0,1,SqT.of aS,qU (j:=1) rfl,t2,_,_,0,1,SqT.of aT,qU (j:=1) rfl,q6 _ _ ?_
   exists 8,N7,q7
   exists 0,t3,_,_,0,1,SqT.of aE,qU (j:=0) rfl,1,0;have aF:FP qs m'=(jW (.tup [.str ek,ex])).map some:=by
    rw[aQ];unfold Ze;rw[aB]
    rfl
   by_cases cs:ek="said"
   ·refine lP (by rw[cs,ud rfl]) ?_
    exists 0,t3,_,_,0,1,SqT.of aE,qU (j:=1) rfl,sml rfl,λt U=>?_;refine k _ _ es' (Z.same (qf U _)) (λ_ _ _=>af) ?_;rw[aF];have:jW (.tup [.str ek,ex])=u_ ex:=A6 cs;rw[this];exact Is.new (ds:= [.bl v_,ex]) ⟨_,0,1,_,0,aU,1⟩ U
   ·refine lr (by rw[uf (λz=>cs (V.str.inj z))]) (q7 _ _ ?_)
    exists sml rfl,λt U=>?_;refine k _ _ es' (Z.same (qf U _)) (λ_ _ _=>af) ?_;rw[aF];have:jW (.tup [.str ek,ex])=none:=A4 cs;rw[this];exact Is.new (ds:= [.bl UT,.non]) ⟨_,0,1,_,0,1,1⟩ U
  erw[id hT,vs,am,ao,ap]
  exists 0,0,rd,0,mJ.k (k:=UV m) am,0;rw[se ao ap m];by_cases cr:m∈es.map (·.1)
  ·refine lr (by rw[ud cr];rfl) (aC H es (Aft.refl hT hR (ic.refl _)) cr)
  refine lP (by rw[uf cr];rfl) ?_
  exists 0,0,0,0,sml rfl,λl1 h1=>?_;have m1:=qf h1 (.lst [V.str m]);have aG:upd H l1 (.lst [V.str m]) l1=u_ (.lst [V.str m]):=qg;generalize upd H l1 (.lst [V.str m])=H1 at m1 aG⊢;have aX:∀y∈ws++ [m],y∈qs.map (·.1):=λy hy=>by
   rcases Ac.mp hy with hy|hy
   ·exact NZ (ak y hy)
   ·cases Ab.mp hy;exact c
  have ah:(ws++ [m]).Nodup:=(T1 (l₁:= [m]) (l₂:=ws)).nodup_iff.mp (List.nodup_cons.mpr [cw:aN]);have aH:↑(ws++ [m])<=60:=by
   have:=pU ah aX;rw[ue] at this;exact uQ this hq.2.2
  have aY:↑ws+1<=60:=by rwa[uA,vm] at aH
  exists wl,l1,ws.map V.str,[V.str m],1,1,m1 _ _ aw,aG,(by rw[ue,vm];omega),λp hp=>?_
  have m2:=qf hp (.lst (ws.map V.str++ [V.str m]));have aI:upd H1 p (.lst (ws.map V.str++ [V.str m])) p=u_ (.lst ((ws++ [m]).map V.str)):=by rw[qg,uz];rfl
  generalize upd H1 p (.lst (ws.map V.str++ [V.str m]))=H2 at m2 aI⊢;have au:=m1.trans m2;obtain⟨k',rfl⟩:∃k',n=k'+1:=[n-1:()]
  exists 0,k',px,p,rd,m,qs,es,ws++ [m],sg,1,1,hP.same au,hq,aI,λy hy=>?_,ah,(by rw[uA,vm];omega),hT.same au,hR,hg,λv H3 ac Z iv=>?_
  ·rcases Ac.mp hy with hy|hy
   ·exact .inr (ak y hy)
   ·exact .inl (Ab.mp hy)
  erw[id Z.tb,aa,ad,ae,aJ];have a6:=Z.ok.few hq;have a7:↑aa=↑ac:=by
   have:=A9 VD ae
   rwa[ue,ue] at this
  have aK:m∉ac.map (·.1):=λz=>cr (Z.no m (uM _ ui) z)
  exists 0,0,rd,0,Eg.k (k:=UV m) ad (by unfold iW;rw[ue];omega)
  have aL:lD (iW aa) (UV m) v=iW (aa++ [(m,v)]):=by
   rw[Ke _ (De (by rwa[ae]))]
   unfold iW;rw[uz]
   rfl
  have aM:=Tk.updD (ys:=lD (iW aa) (UV m) v) ad;have aZ:Kp [rd] H3 (upd H3 rd (.dK (lD (iW aa) (UV m) v))):=Kp.updD ad ui;refine aC _ (ac++ [(m,Nv (itP qs 302 sg))]) ⟨(Kp.of au).trans (Z.kp.trans aZ),⟨aa++ [(m,v)],by rw[qg,aL],?_,?_⟩,[?_:λe he=>?_],λe he=>vh _ (Z.sub e he),λy hy hz=>?_⟩ (by rw[uz];exact uM _ ui)
  ·rw[uz,uz,ae]
   rfl
  ·rw[uz,uz];exact(aJ.mono aM).append (L2.IsL.one (iv.mono aM))
  ·rw[uz];have h0:(m::ac.map (·.1)).Nodup:=List.nodup_cons.mpr [aK:Z.ok.nd];exact(T1 (l₁:= [m]) (l₂:=Hq (λx:Str×D=>x.1) ac)).nodup_iff.mp h0
  ·rcases Ac.mp he with he|he
   ·exact Z.ok.run e he
   ·cases Ab.mp he;exact[sg:hg:1]
  ·rw[uz] at hz;rcases Ac.mp hz with hz|hz
   ·exact Z.no y (vh _ hy) hz
   ·cases Ab.mp hz;exact A8 hy cw
 ·cases h2 c;refine lP (ud rfl) ?_
  exists sml rfl,λt U=>?_;have hg:g0D m (qS qs m)=none:=by rw[YQ c];rfl
  have hF:FP qs m=u_ none:=(Sy.F_once (QZ qs) hg).trans (by show u_ (pM (qS qs m))=_;rw[YQ c];rfl)
  refine k _ _ es (Aft.refl hT hR (qf U _)) (λ_ s hs=>by rw[hg] at hs;cases hs) ?_
  rw[hF];exact Is.new (ds:= [.bl v_,.non]) ⟨_,0,1,_,0,1,1⟩ U
variable {C:o3}
def yd.kp {m:Mc}{r:Rn}(h:yd C H m r)(k:Kp [rd] H H')(n1:m.x≠rd)(U:m.db≠rd)(Z:m.dg≠rd):yd C H' m r:=by
 have O:∀{b:o3},b≠rd->b∉ [rd]:=λh z=>h (Ab.mp z);erw[h,dx,fs,rv,ru,tv,gv,e,f,i,j,[bf,b1,b2],g,gl,t];exact⟨dx,fs,rv,ru,tv,gv,k.kept _ _ e (O n1),f,i.mono k.tk,j.mono k.tk,[bf:k.kept _ _ b1 (O U):λz hz=>(b2 z hz).mono k.tk],k.kept _ _ g (O Z),gl.mono k.tk,t.mono k.tk⟩
def Aft.mv {m:Mc}(h:Aft qs ws rd H H1 es O)(v:Mv m H1 H2)(n1:H m.x=US)(Z:H m.db=US)(n3:H m.dg=US)(hr:H rd≠US):Aft qs ws rd H H2 es O:=by
 have U:∀{b:o3},H b=US->rd≠b:=λhb z=>hr (by rwa[z])
 erw[h.tb,vs,t1,t2,t3];exact⟨[λb ob e nb=>v.kept b ob (h.kp.kept b ob e nb) (ql e n1) (ql e Z) (ql e n3):h.kp.tk.trans v.tk],⟨vs,v.kept _ _ t1 (U n1) (U Z) (U n3),t2,t3.mono v.tk⟩,h.ok,h.sub,h.no⟩
def Ib (T:Tx K mg a)(C:Fx K w mg g a)(nn:Nat)(jD:FnOk P w K mg base CX0 (2*nn+10) a.jq a.jG ["project","name","way","runs"] (Xv a.qE nn)):FnOk P w K mg base CX0 (2*nn+11) a.JU a.JO ["project","name","way","runs"] (Zk a.qE (nn+1)):=by
 have qL:=#[yP,T];have yg:=#[nT,T];have Jz:=#[ZO,T,C];have Y6:=#[Ak,T,C];have QN:=#[CN,T];have yG:=#[CU,T];have Yk:=#[Ks,T,C];refine T.md.F.ok Qa () (λ_ _ _ _ H vs Q E hr h=>?_)
 erw[h,kk,px,wl,rd,n,qs,es,ws,gp,h0,rfl,hP,hq,aQ,bd,be,bf,hT,hR,hg,k];cases h0;have hs:=uD;have bg:n∈qs.map (·.1):=(QZ qs).gn n gp hg;erw[JG hq bg,bh,kw,ee,aR,g1,g2];have cn:=WY bh;erw[id hP,bI,dp,op,cp,hx,_];have aL:H rd≠none:=by erw[hT,vs,h,_];rw[h];exact λz=>by cases z
 have bJ:wl∉ [rd]:=λz=>by
  erw[hT,vs,h,_];rw[<-Ab.mp z,aQ] at h;cases h
 have bK:∀p∈ [rd],(∃xs,H p=u_ (.lst xs))∨(∃xs,H p=u_ (.dK xs))∨H p=none:=λp hp=>by
  cases Ab.mp hp;erw[hT,vs,h,_];exact .inr (.inl [_:h])
 have out:∀(p:Gp) (j:Nat) (v0 v1 v2:V) (H':Hp) (es':oj (Str×D)),itP qs j gp=p->p.en.isSome=v_->Aft qs ws rd H H' es es'->Is H' (match p.run with|none=> .non|some q=>Yp q.1) v0->Is H' (.tup (Yr p.run)) v1->Is H' (p.en.getD .non) v2->∀t,H' t=US->∀t',(upd H' t (.tup [v1,v2])) t'=US->Q (.ref t') (upd (upd H' t (.tup [v1,v2])) t' (.tup [v0,.ref t])):=λp j v0 v1 v2 H' es' h1 h2 hA i0 i1 i2 t ht t' bo=>by
  have m1:=qf ht (.tup [v1,v2]);have m2:=qf bo (.tup [v0,.ref t]);refine k _ _ es' (hA.same (m1.trans m2)) ?_;have e:itP qs 302 gp=p:=Nf hg h1 h2;rw[e];exact Is.new (ds:= [_,.tup [.tup (Yr p.run),p.en.getD .non]]) ⟨_,0,i0.mono m1.tk,_,0,Is.new (ds:= [.tup (Yr p.run),p.en.getD .non]) ⟨_,0,i1,_,0,i2,1⟩ ht,1⟩ bo
 exists 3,%[#[ZH,#[Qg,pv 0,T.QS,T.ii,qL,#v[pv 1]],#[wA,QC #[qQ,(4),Qa.nd] (QC #[qQ,(5),Qa.nd] Jb)]],#[qG,#[qr,Qq,pv 4,qj],%[#[qC,(6),Qa.nd,pv 5],#[ZH,#[qu,jD,hr.mono (),T.li,#v[pv 0,pv 6,pv 2,pv 3]],#[wA,QC #[qQ,(7),Qa.nd] (QC #[qQ,(5),Qa.nd] Jb)]],#[qG,#[Qo,#[Qd,pv 7]],%[|#[qp,#[qB,#v[qP,#[qB,#v[#[qB,qd],#[qB,#v[qj,pv 6]]]]]]]],qw]|#[qG,#[qr,yL,pv 5,qP],%[|#[qp,#[qB,#v[qP,#[qB,#v[#[qB,qd],#[qB,#v[qj,qj]]]]]]]],qw]],qw],#[qG,#[Qo,#[Qd,#[qu,Jz,hr.mono (),T.lW,#v[pv 5]]]],%[|#[qp,#[qB,#v[qP,#[qB,#v[#[qB,qd],#[qB,#v[qj,qj]]]]]]]],qw],#[qC,(8),Qa.nd,#[wK,T.M_Machine,Y6,T.m_Machine,T.iZ,OU,#v[pv 5,pv 1]]],#[xZ,#[qr,Qq,#[qI,Jl,#[QA,pv 8,T.qt,T.iy,QN],qh],qj],%[#[qC,(9),Qa.nd,#[qI,Jl,#[QA,pv 8,T.qt,T.iy,QN],qh]],#[ZH,#[qB,#v[jw,qP]],#[wA,QC #[qQ,(7),Qa.nd] (QC #[qQ,(10),Qa.nd] Jb)]],#[qG,#[qr,Qq,#[qI,qF,pv 9,qh],qj],%[|#[ZH,#[qu,jD,hr.mono (),T.li,#v[pv 0,#[qI,qF,pv 9,qh],pv 2,pv 3]],#[wA,QC #[qQ,(7),Qa.nd] (QC #[qQ,(10),Qa.nd] Jb)]]],%[|#[qC,(10),Qa.nd,#[Qg,pv 0,T.QS,T.iC,yg,#v[pv 9]]]]],#[qG,#[Qo,#[Qd,pv 7]],%[|#[qp,#[qB,#v[pv 5,#[qB,#v[#[QA,pv 8,T.qt,T.iD,yG],#[qB,#v[qj,#[qI,qF,pv 9,qh]]]]]]]]],qw]|#[qZ,#[Qg,pv 8,T.qt,T.iJ,Yk,#v[pv 10]]]]]|#[qp,#[qB,#v[pv 5,#[qB,#v[#[QA,pv 8,T.qt,T.iD,yG],#[QA,pv 8,T.qt,T.iy,QN]]]]]]]
 exists 8,N1,q1
 exists 0,px,bI,0,hx,yp,0,px,n,qs,1,hP,λsv h1 h2=>?_;have bp:=h1 bg;rw[aR] at bp;erw[bp,ts,us,rfl,bL,w1,r1,rfl,[rfl,cq],w2,r2,rfl,bq,bM];cases(show r2= [] from bM)
 exists ts,0,SqT.of bL,1
 exists _,0,_,0,1,q1 _ _ ?_;exists 8,N2,q2;have bt:∀(rv:V) (rl mb:D) (ra:oj D) (H1:Hp) (aa:oj (Str×D)) (j:Nat) (u6 u7:om V),Aft qs ws rd H H1 es aa->Is H1 rl rv->Yz rl=UT->itP qs j gp=me ⟨n,mb,ra,US,US⟩ rl->N2 [u_ (.ref px),u_ (.str n),u_ (.ref wl),u_ (.ref rd),u_ (.str kw),u_ rv,u6,u7,US,US,US] H1:=by
  intro rv rl mb ra H1 aa j u6 u7 ax ir aM ay;refine q2 _ _ ?_;exists 8,N5,q5
  exists 0,rv,rl,1,ir,λH2 s2=>[0:?_];have ap:=ax.same s2;have bu:=(oz hq hg j).1;rw[ay] at bu;cases hr:QI rl with
  |none=>
   refine i9 ?_;have hp:me ⟨n,mb,ra,US,US⟩ rl=⟨n,mb,ra,US,u_ (flt "rule")⟩:=by
    unfold me;rw[aM,A4 uc,hr]
   rw[hp] at ay
   exists uW _,λt1 h1=>[sml rfl:λt2 h2=>[sml rfl:λt3 h3=>[sml rfl:λt4 h4=>?_]]];have m1:=qf h1 (.tup ([]:oj V));have m2:=qf h2 (.tup [V.str "fault",V.str "rule"]);exact out _ j .non (.ref t1) (.ref t2) _ aa ay rfl (ap.same (m1.trans m2)) rfl ((Is.new (ds:= []) rfl h1).mono m2.tk) (Is.new (ds:= [.str "fault",.str "rule"]) ⟨_,0,Ya (),_,0,Ya (),1⟩ h2) t3 h3 t4 h4
  |some rs=>
   refine iS (q5 _ _ ?_);erw[W7 hr,bN,bO];subst bO;have hp:me ⟨n,mb,ra,US,US⟩ (Yp rs)=⟨n,mb,ra,u_ (rs,R0 rs n),lC (R0 rs n)⟩:=by
    unfold me;rw[aM,A4 uc,hr]
   rw[hp] at ay bu;exists 8,N6,q6
   exists 0,0,λx dx aS bP nx=>?_;have m0:ic H2 (upd (upd H2 dx (.own x)) x (.ins a.qm dx [])):=λb ob h=>by rwa[qk (ql h aS),qk (ql h bP)]
   exists x,dx,rv,.str n,Yp rs,.str n,1,qg,(ir.mono s2.tk).mono m0.tk,Ya (),λz=>?_,λ_ z=>?_,λO ch e1 bQ e2 cr cs H3 db dg kept bR bS hM=>[1:q6 _ _ ?_]
   ·rw[hr] at z;cases z
   ·rw[show mx (.str n)=v_ from bh] at z
    cases z
   have e3:O=rs:=by
    have h1:=bN.read;rw[e1,bQ.read] at h1;exact uL h1
   cases e2;subst e3;have s3:ic H2 H3:=λb ob h=>kept b ob (m0 b ob h) (ql h aS);erw[id ap.tb,cv,bT,_];have aT:∀p∈ [rd],H2 p≠none:=λp hp=>by cases Ab.mp hp;rw[bT];exact λz=>by cases z
   have fx:H x=none:=ap.kp.free aS aT;have fb:H db=none:=ap.kp.free (m0.free bR) aT;have fg:H dg=none:=ap.kp.free (m0.free bS) aT;have nr:∀{b:o3},H b=US->b≠rd:=λhb z=>aL (by rwa[<-z])
   exists 8,N7,q7
   let J_:Nat->L2.St->Hp->Prop:=λmm σ H'=>∃(i:Nat) (r:Rn) (es':oj (Str×D)) (u7 u9 aA:om V),mm=mY ⟨n,mb,ra,u_ (O,r),lC r⟩/\σ= [u_ (.ref px),u_ (.str n),u_ (.ref wl),u_ (.ref rd),u_ (.str kw),u_ rv,u6,u7,u_ (.ref x),u9,aA]/\Aft qs ws rd H H' es es'/\Is H' (Yp O) rv/\yd a.qm H' ⟨x,db,dg,O,n⟩ r/\itP qs i gp=⟨n,mb,ra,u_ (O,r),lC r⟩
   exists J_,⟨_,j,R0 O n,aa,u7,US,US,1,1,ap.same s3,(ir.mono s2.tk).mono s3.tk,hM,ay⟩;rintro mm σ H4 ⟨i,r,aU,u7,u9,aA,rfl,rfl,bv,bw,aq,ac⟩;have aN:=(oz hq hg i).1;rw[ac] at aN;erw[aN.run O r rfl,bU,aV,bx,hW];have bA:=aq;erw[bA,aH,aB,_,_,_,_,aC,bV,_];have bW:∃w0 e0,r.th= .tup [.str w0,e0]:=by
    rcases bx with⟨z,h⟩|⟨e,h,_⟩|⟨u,z,h,_⟩
    ·exact[_:_:h]
    ·exact[_:_:h]
    ·exact[_:_:h]
   erw[bW,w0,e0,aW];have aI:∀m∈MTH,aB.lookup m=none:=bV.meth;have cx:↑r.gs<=1000:=by have:=aV.gs.2.2;have:=aV.n;omega
   exists 0,x,aH,aB,1,aC,aI _ (),⟨x,db,dg,O,n⟩,r,1,aq,λv4 i4=>?_
   rw[aW] at i4;erw[i4,p4,cy,rfl,bX,y1,cz,rfl,[rfl,ci],y2,bY,rfl,cA,h5];cases(show bY= [] from h5)
   refine .inr (.inl ⟨p4,_,_,0,1,SqT.of bX,1,1,0,?_⟩);by_cases cw:w0="asks"
   ·refine lP (ud (by rw[cw])) ?_
    have ak:QJ r.th=true:=by rw[aW,cw];rfl
    have ad:lC r=none:=by unfold lC;rw[A6 ak]
    obtain⟨u,z,aD,bZ,bB⟩:∃(u z:Str),r.th= .tup [.str "asks",.tup [.str u,.str z]]/\isT (.str z)=v_/\(u="names"∨(u="thing"∨u="has")/\nm z=v_):=by
     rcases bx with⟨y,h⟩|⟨e,h,_⟩|h
     ·rw[h] at ak;exact A8 ak (show¬decide (("fault":Str)="asks")=v_ by decide+kernel)
     ·rw[h] at ak;exact A8 ak (show¬decide (("said":Str)="asks")=v_ by decide+kernel)
     ·exact h
    have b5:↑z<=300:=by
     have:=QY bZ;simp![iL,Qs,uC,uZ] at this;exact this.1
    have bC:jt ⟨n,mb,ra,u_ (O,r),lC r⟩= .tup [.str u,.str z]:=by
     show Zd r.th=_;rw[aD]
     rfl
    have aE:yb ⟨n,mb,ra,u_ (O,r),lC r⟩=if ph u=v_ then US else u_ z:=by
     unfold yb;rw[bC]
    have nxt:itP qs (i+1) gp=Sy.step (SyP qs) (FP qs) ⟨n,mb,ra,u_ (O,r),lC r⟩:=Do ac
    exists λσ' H'=>∃m',m'<mY ⟨n,mb,ra,u_ (O,r),lC r⟩/\J_ m' σ' H',λ_ _ h=>h;have more:∀(dv:D) (u7 u9 aA:om V) (H5 U:Hp) (aX:oj (Str×D)),Sy.step (SyP qs) (FP qs) ⟨n,mb,ra,u_ (O,r),lC r⟩=Q3 ⟨n,mb,ra,u_ (O,r),lC r⟩ dv->Aft qs ws rd H H5 es aX->Is H5 (Yp O) rv->Mv ⟨x,db,dg,O,n⟩ H5 U->yd a.qm U ⟨x,db,dg,O,n⟩ (mt O n r dv)->∃m',m'<mY ⟨n,mb,ra,u_ (O,r),lC r⟩/\J_ m' [u_ (.ref px),u_ (.str n),u_ (.ref wl),u_ (.ref rd),u_ (.str kw),u_ rv,u6,u7,u_ (.ref x),u9,aA] U:=λdv u7 u9 aA H5 U aX e1 Z aF mv ae=>
     ⟨_,kC (g:=⟨n,mb,ra,u_ (O,r),lC r⟩) ad dv,i+1,mt O n r dv,aX,_,_,0,1,Z.mv mv fx fb fg aL,aF.mono mv.tk,ae,nxt.trans e1⟩
    show mQ _ _ _ _ H4;exists 8,B1,b1
    exists 0,x,aH,aB,1,aC,aI _ (),⟨x,db,dg,O,n⟩,r,1,aq,λv5 i5=>?_
    rw[aD] at i5;erw[i5,p5,cB,rfl,b6,y3,cC,rfl,_,y4,b7,rfl,[p6,cD,rfl,b8,y5,cE,rfl,[rfl,cF],y6,b9,rfl,[rfl,cj],h6],h7];cases(show b7= [] from h7)
    cases(show b9= [] from h6)
    refine .inr (.inl ⟨p5,_,_,0,1,SqT.of b6,1,b1 _ _ ?_⟩);exists 8,B2,b2
    exists sml rfl,λt2 ca=>⟨t2,0,SqT.of qg,1,_,0,_,0,1,b2 _ _ ?_⟩;have m2:=qf ca (.tup [V.bl v_,V.non]);have aY:=aq.same m2;have af:=m2 _ _ b8;have Z:=bv.same m2;have bD:=m2 _ _ aC;have aF:=bw.mono m2.tk;generalize upd H4 t2 (.tup [V.bl v_,V.non])=H5 at m2 aY af Z bD aF⊢;have aZ:Yb a.qE H5 px qs:=hP.kp Z.kp bK;exists 8,B3,b3
    exists 0,p6,_,_,0,1,SqT.of af,qU (j:=0) rfl,1,0;have aO:∀(dv:D) (av:V) (U:Hp) (au:oj (Str×D)),Sy.step (SyP qs) (FP qs) ⟨n,mb,ra,u_ (O,r),lC r⟩=Q3 ⟨n,mb,ra,u_ (O,r),lC r⟩ dv->Aft qs ws rd H U es au->Is U (Yp O) rv->yd a.qm U ⟨x,db,dg,O,n⟩ r->Is U dv av->AQ u dv=v_->B3 [u_ (.ref px),u_ (.str n),u_ (.ref wl),u_ (.ref rd),u_ (.str kw),u_ rv,u6,u_ (.bl v_),u_ (.ref x),u_ (.ref p6),u_ av] U:=by
     intro dv av U au e1 aw aJ ae iv a4;refine b3 _ _ ?_;exists 8,B4,b4
     exists 0,0,iS (b4 _ _ ?_);erw[id ae,a5,a6,_,_,_,_,a7,a8,_]
     exists 0,x,a5,a6,1,a7,a8.meth _ (),0,⟨x,db,dg,O,n⟩,r,_,u,.str z,dv,1,ae,aV,aD,iv,bU,(),a4,λH7 mv cb=>?_
     exact more _ _ _ _ U H7 au e1 aw aJ mv cb
    by_cases cu:u="thing"
    ·refine lP (ud (by rw[cu])) ?_
     have ag:yb ⟨n,mb,ra,u_ (O,r),lC r⟩=u_ z:=by rw[aE,cu];rfl
     have aK:nm z=true:=by
      rcases bB with h|⟨_,h⟩
      ·rw[cu] at h;exact A8 h ()
      ·exact h
     have ah:Sy.Wt (SyP qs) n z:=⟨gp,i,hg,(by show(Sy.it (SyP qs) (FP qs) i gp).en.isSome=UT;rw[show Sy.it (SyP qs) (FP qs) i gp=_ from ac,show(⟨n,mb,ra,u_ (O,r),lC r⟩:Gp).en=US from ad];rfl),(by show yb (Sy.it (SyP qs) (FP qs) i gp)=u_ z;rwa[show Sy.it (SyP qs) (FP qs) i gp=_ from ac])⟩
     exists 0,0,p6,_,_,0,1,SqT.of af,qU (j:=1) rfl,0,0,px,wl,rd,z,qs,aU,ws,1,aZ,hq,Z.kp.kept _ _ aQ bJ,λy hy=>?_,be,bf,Z.tb,Z.ok,aK,λv U au aw _ iv=>?_
     ·rcases bd y hy with h|h
      ·rw[h];exact .one ah
      ·exact .more h ah
     have ae:=aY.kp aw.kp (nr fx) (nr fb) (nr fg);have aP:=Z.trans aw;have aJ:=aF.mono aw.kp.tk;cases hF:FP qs z with
     |some oa=>
      rw[hF] at iv;erw[iv,t6,a9,rfl,al,x1,ba,rfl,e1,x2,am,rfl,ia,ao];cases(show am= [] from ao)
      cases(show x1= .bl v_ from e1)
      have cc:=Sn hq z oa hF;have a4:AQ u (oa.getD .non)=true:=by
       rw[cu];unfold AQ;rcases cc with h|h
       ·rw[h];decide+kernel
       ·cases cG:Yz (oa.getD .non) with
        |true=>rw[A6 rfl];decide+kernel
        |false=>rw[A4 uc,A6 h,A4 (show¬("thing":Str)="has" by decide+kernel),ud rfl];rfl
      exists t6,0,SqT.of al,1,_,0,_,0,1,aO (oa.getD .non) _ U au ?_ aP aJ ae ia a4;rw[pk ad ag,hF]
     |none=>
      rw[hF] at iv;erw[iv,t6,a9,rfl,al,x1,ba,rfl,e1,x2,am,rfl,e2,ao];cases(show am= [] from ao)
      cases(show x1= .bl UT from e1)
      exists t6,0,SqT.of al,1,_,0,_,0,1,b3 _ _ ?_;exists 8,B4,b4
      exists 0,0,i9 ?_;have cd:itP qs (i+1) gp=Ei ⟨n,mb,ra,u_ (O,r),lC r⟩ z:=by rw[nxt,pk ad ag,hF]
      erw[id ae,a5,a6,_,_,_,_,a7,a8,_];have bE:U p6=u_ (.tup [V.str u,V.str z]):=aw.kp.tk.tup _ _ af
      exists 0,0,x,a5,a6,1,a7,a8.meth _ (),⟨x,db,dg,O,n⟩,r,1,ae,λv7 H7 s7 i7=>?_
      exists 0,p6,_,_,0,1,SqT.of (s7 _ _ bE),qU (j:=1) rfl,sml rfl,λt7 h7=>[sml rfl:λt8 h8=>[sml rfl:λt9 h9=>?_]];have m7:=qf h7 (.tup [V.str "stuck",V.str z]);exact out _ (i+1) rv v7 (.ref t7) _ au cd rfl (aP.same (s7.trans m7)) (aJ.mono (s7.trans m7).tk) (i7.mono m7.tk) (Is.new (ds:= [.str "stuck",.str z]) ⟨_,0,Ya (),_,0,Ya (),1⟩ h7) t8 h8 t9 h9
    ·refine lr (uf (λy=>cu (V.str.inj y))) ?_;have aG:ph u=true:=by
      rcases bB with h|⟨h|h,_⟩
      ·rw[h];decide+kernel
      ·exact A8 h cu
      ·rw[h];decide+kernel
     have ag:yb ⟨n,mb,ra,u_ (O,r),lC r⟩=none:=by rw[aE,A6 aG]
     have bF:Sy.step (SyP qs) (FP qs) ⟨n,mb,ra,u_ (O,r),lC r⟩=Q3 ⟨n,mb,ra,u_ (O,r),lC r⟩ (X5 qs u z):=by
      rw[Ln ad ag];show mW qs _=_;unfold mW;rw[bC]
     erw[id aZ,ce,cH,cI,cJ,cf,_]
     exists 0,px,ce,0,cf,nX,0,px,p6,u,z,qs,1,aZ,hq,af,()
     have bG:u="has"∨u≠"has"/\u="names":=by
      unfold ph at aG;by_cases c:u="has"
      ·exact .inl c
      ·rw[uf c,tS] at aG;exact .inr [c:uu aG]
     have fin:∀(v6:V) (U:Hp),ic H5 U->Is U (X5 qs u z) v6->B3 [u_ (.ref px),u_ (.str n),u_ (.ref wl),u_ (.ref rd),u_ (.str kw),u_ rv,u6,u_ (.bl v_),u_ (.ref x),u_ (.ref p6),u_ v6] U:=λv6 U s6 i6=>aO _ v6 U aU bF (Z.same s6) (aF.mono s6.tk) (aY.same s6) i6 (pT hq z aG).2;rcases bG with c|⟨c',c⟩
     ·refine .inl [c:fin _ H5 (ic.refl _) ?_];unfold X5;rw[A6 c];exact Ya (by split<;>decide)
     ·refine .inr [c:λv6 U s6 i6=>fin v6 U s6 ?_];unfold X5;rwa[A4 c']
   ·refine lr (uf (λy=>cw (V.str.inj y))) (q7 _ _ ?_);have ak:QJ r.th=false:=by rw[aW];exact uf cw
    have ad:lC r=u_ r.th:=by unfold lC;rw[ak,A4 uc]
    exists 0,0,x,aH,aB,1,aC,aI _ (),⟨x,db,dg,O,n⟩,r,1,aq,λv6 U s6 i6=>?_
    exists 0,x,aH,aB,1,s6 _ _ aC,aI _ (),⟨x,db,dg,O,n⟩,r,1,aq.same s6,λv8 i8=>[sml rfl:λt1 h1=>[sml rfl:λt2 h2=>?_]]
    refine out _ i rv v6 v8 U aU ac (by show(lC r).isSome=v_;rw[ad];rfl) (bv.same s6) (bw.mono s6.tk) i6 ?_ t1 h1 t2 h2
    show Is U ((lC r).getD .non) v8;rwa[ad]
 exists 0,1,0;by_cases cm:kw="made"
 ·refine lP (ud (by rw[cm])) ?_
  erw[g1 cm,z,rfl,aK];obtain⟨rfl,b5⟩:=(show w2= .str z/\↑z<=UX from bq)
  have ck:=WY aK;have bb:gp=⟨n,.str z,[],US,US⟩:=by
   rw[aR,cm] at hg;exact(uL hg).symm
  subst bb;have aE:yb ⟨n,.str z,[],US,US⟩=u_ z:=rfl;have nxt:itP qs (0+1) ⟨n,.str z,[],US,US⟩=Sy.step (SyP qs) (FP qs) ⟨n,.str z,[],US,US⟩:=Do rfl;have ah:Sy.Wt (SyP qs) n z:=⟨_,(0),hg,1,aE⟩;show mQ _ _ _ _ H;exists 8,A1,a1
  exists 0,a1 _ _ ?_;exists 8,A2,a2
  exists 0,0,0,0,px,wl,rd,z,qs,es,ws,1,hP,hq,aQ,λy hy=>?_,be,bf,hT,hR,aK,λv H1 aa ax _ iv=>?_
  ·rcases bd y hy with h|h
   ·rw[h];exact .one ah
   ·exact .more h ah
  rw[pk rfl aE] at nxt;cases hF:FP qs z with
  |none=>
   rw[hF] at iv nxt;erw[iv,t6,a9,rfl,al,x1,ba,rfl,e1,x2,am,rfl,e2,ao];cases(show am= [] from ao)
   cases(show x1= .bl UT from e1)
   exists t6,0,SqT.of al,1,_,0,_,0,1,a2 _ _ ?_;exists 8,A3,a3
   exists 0,0,i9 ?_
   exists uW _,λt1 h1=>[0:sml rfl:λt2 h2=>[sml rfl:λt3 h3=>[sml rfl:λt4 h4=>?_]]];have m1:=qf h1 (.tup ([]:oj V));have m2:=qf h2 (.tup [V.str "stuck",V.str z]);exact out _ (0+1) .non (.ref t1) (.ref t2) _ aa nxt rfl (ax.same (m1.trans m2)) rfl ((Is.new (ds:= []) rfl h1).mono m2.tk) (Is.new (ds:= [.str "stuck",.str z]) ⟨_,0,Ya (),_,0,Ya (),1⟩ h2) t3 h3 t4 h4
  |some oa=>
   rw[hF] at iv nxt;erw[iv,t6,a9,rfl,al,x1,ba,rfl,e1,x2,am,rfl,ia,ao];cases(show am= [] from ao)
   cases(show x1= .bl v_ from e1)
   exists t6,0,SqT.of al,1,_,0,_,0,1,a2 _ _ ?_;exists 8,A3,a3
   exists 0,0,iS (a3 _ _ ?_);have bc:itP qs (0+1) ⟨n,.str z,[],US,US⟩=me ⟨n,.str z,[.tup [.tup [.str "rule",.str z],oa.getD .non]],US,US⟩ (oa.getD .non):=nxt
   exists 0,1,0;rcases Sn hq z oa hF with h|h
   ·rw[h] at ia bc;cases(show x2=V.non from ia)
    refine lP (ud rfl) ?_
    exists uW _,λt1 h1=>[sml rfl:λt2 h2=>[sml rfl:λt3 h3=>[sml rfl:λt4 h4=>?_]]];have m1:=qf h1 (.tup ([]:oj V));have m2:=qf h2 (.tup [V.str "fault",V.str "lack"]);exact out _ (0+1) .non (.ref t1) (.ref t2) _ aa bc rfl (ax.same (m1.trans m2)) rfl ((Is.new (ds:= []) rfl h1).mono m2.tk) (Is.new (ds:= [.str "fault",.str "lack"]) ⟨_,0,Ya (),_,0,Ya (),1⟩ h2) t3 h3 t4 h4
   ·have bH:x2≠ .non/\Yz (oa.getD .non)=false:=by
     generalize oa.getD .non=dd at h ia;cases dd with
     |str y=>exact⟨λe=>(by rw[e] at ia;cases ia.1),1⟩
     |tup ys=>exact⟨λe=>(by rw[e] at ia;erw[ia,_,_,e2,_];cases e2),1⟩
     |non=>exact A8 h ()
     |bl b=>exact A8 (QY h) (show¬UT=v_ by decide)
     |int b=>exact A8 (QY h) (show¬UT=v_ by decide)
     |lst=>exact A8 h ()
     |dct=>exact A8 h ()
    refine lr (uf bH.1) ?_;exact bt _ (oa.getD .non) (.str z) _ H1 aa (0+1) _ _ ax ia bH.2 bc
 ·refine lr (uf (λz=>cm (V.str.inj z))) ?_;have bb:gp=me ⟨n,.non,[],US,US⟩ ee:=by
   rw[aR] at hg;unfold g0D at hg;simp only at hg;by_cases cl:kw="leaf"
   ·rw[A6 cl] at hg;cases hg
   ·rw[A4 cl,A4 cm] at hg;exact(uL hg).symm
  have cg:=(g2 cm).2;refine bt w2 ee .non [] H es 0 US US (Aft.refl hT hR (ic.refl _)) bq ?_ bb;cases ee with
  |non=>exact A8 cg ()
  |_=>rfl
nonrec def nuD (d:D):Prop:=d= .non∨∃xs,d= .tup xs/\nL xs=v_
inductive Abj (x:V)(y:V)(H:Hp)(Q:VK):Prop
 |mk (d:D)(_:Is H d x)(_:Is H d y)(_:nuD d)(_:dp d<=60)(_:Q (.bl UT) H)
variable {X:Cx}
def OX (Z:X.A.units+64<V3):OpR X (V4 .NotEq) Abj:=by
 exists 2,x,y,v,u,Q,I,O,U,h;erw[h,d,h1,h2,k1,hd,q];rcases k1 with rfl|⟨xs,rfl,k1⟩
 ·cases(show x= .non from h1)
  cases(show y= .non from h2)
  exact EX oq s σ H .non .non v u Q I O U ⟨1,by simpa using q⟩
 ·refine Ml Z oq s σ H x y v u Q I O U ⟨xs,xs,h1,h2,k1,k1,?_,by rwa[(eqNL_iff k1).mpr rfl]⟩
  have:dp (.tup xs)=1+dpL xs:=by simp![dp]
  omega
def Ob {p:Gp}{n:Str}(h:GI p)(hf:p.en.isSome=v_):nuD (pf n p)/\dp (pf n p)<=60:=by
 unfold pf;cases O:p.run with
 |none=>exact⟨.inl rfl,by simp[dp]⟩
 |some q=>
  erw[q,rs,r]
  try dsimp only
  by_cases c:Bp (p.en.getD .non)=v_
  ·rw[A6 c];exact⟨.inl rfl,by simp[dp]⟩
  ·rw[A4 c];erw[Aak h hf,_,_,U,e2];have Z:=(h.run rs r O).1;have h2:=(h.run rs r O).2.1.gs;have t1:=x9 Z.tree;have t2:=WD (QY Z.tree);unfold Sj at U e2;have h3:nL (Yr (u_ (rs,r)))=true:=h2.1;have h4:dpL (Yr (u_ (rs,r)))<=30:=h2.2.1;exists .inr [0:?_],?_
   ·simp![nL,nD,t2,h3,U,Fu]
   ·simp![dp,dpL];omega
nonrec def KH (d:D):Bool:=match d with
 | .tup (.str k::_)=>decide (k="done")
 |_=>UT
nonrec def Dd (d:D):Prop:=∃(w:Str) (r:oj D),d= .tup (.str w::r)
def Pj {K:o0}{b A:o3}{H1:Hp}{tg:TG}{tc:TT}{te:TE}{tl:L2.St}{Q:VK}{xs:oj V}(C:Nat->oj V->Hp->Prop)(hb:H1 b=u_ (.tup xs))(hn:↑xs<=UX)(h0:C 0 [] (upd H1 A (.lst [])))(hC:∀i ys H,C i ys H->ic H1 H)
  (aa:∀i x ys H O,xs[i]? =u_ x->C i ys H->H A=u_ (.lst ys)->tg x (O::tl) H λZ H2=>tc Z H2 λc H3=>if c=v_ then te Z H3 λy H4=>H4 A=u_ (.lst ys)/\(∃u0,Z=u0::tl)/\C (i+1) (ys++ [y]) (upd H4 A (.lst (ys++ [y]))) else H3 A=u_ (.lst ys)/\(∃u0,Z=u0::tl)/\C (i+1) ys H3)
  (hQ:∀ys H,C ↑xs ys H->H A=u_ (.lst ys)->Q (.ref A) H):Di A (Itt K b) tg tc te (US::tl) H1 Q:=by
 exists ↑xs,λi σ ys H=>(∃O,σ=O::tl)/\C i ys H,hn,[[US:1]:h0],?_,?_
 ·rintro i σ ys H hi ⟨⟨O,rfl⟩,U⟩ hl hy;have sm:=hC _ _ _ U;have e0:xs[i]? =u_ xs[i]:=uq hi;exists ⟨_,_,SqT.of (sm _ _ hb),e0⟩;rintro x H' ⟨rfl,hx⟩;have e:=hx _ (SqT.of (sm _ _ hb));exact aa i x ys H' O e U hl
 ·rintro σ ys H ⟨_,U⟩ hl;exact[[_:SqT.of (hC _ _ _ U _ _ hb):uj _]:hQ ys H U hl]
variable {ds:oj D}{Q:VK}
def PP {K:o0}{t A0:o3}{us:oj V}(ht:H t=u_ (.tup us))(U:L2.IsL H ds us)(hd:∀d∈ds,Dd d)(ae:↑us<=UX)(Z:H A0=US)(hQ:∀ys H',ic H H'->↑ys=↑(ds.filter KH)->H' A0=u_ (.lst ys)->Q (.ref A0) H'):Di A0 (Itt K t) (ji 0) (Lj (tOp rEq (tOp (Kj K) (Li 0) (tC (V.int 0))) (tC (V.str "done")))) (Li 0) [US] H Q:=by
 have aa:↑us=↑ds:=↑U;refine Pj (tl:= []) (λi ys H'=>↑ys=↑((ds.take i).filter KH)/\ic H H') ht ae [1:qf Z _] (λi ys H' h=>h.2) ?_ ?_
 ·rintro i x ys H' w0 hx ⟨O,s'⟩ ac;have hi:i<↑ds:=by rw[<-aa];exact(Af.mp hx).1
  erw[U.get (i:=i) (d:=ds[i]) (uq hi),x',ad,ix];rw[hx] at ad;cases ad;erw[hd _ (uY hi),wd,r,e];rw[e] at ix;erw[ix,t6,w6,rfl,af,x7,r7,rfl,[rfl,ah],_]
  try dsimp![ji,G7]
  exists 0,t6,_,_,0,1,SqT.of (s' _ _ af),qU (j:=0) rfl,1,0;have ef:(ds.take (i+1)).filter KH=(ds.take i).filter KH++ [ds[i]].filter KH:=by
   rw[vD,uq hi,Hr]
   rfl
  by_cases cd:wd="done"
  ·refine lP (ud (by rw[cd])) ?_
   refine⟨0,ac,⟨0⟩,?_,λb o e=>by rw[qk (ql e Z)];exact s' _ _ e⟩
   have:KH ds[i]=true:=by rw[e];exact ud cd
   rw[ef,uA,uA,O,vt,A6 this]
   rfl
  ·refine lr (uf (λz=>cd (V.str.inj z))) ?_;exists ac,⟨0⟩,?_,s';have:KH ds[i]=false:=by rw[e];exact uf cd
   rw[ef,uA,O,vt,A4 (by rw[this];exact uc)]
   rfl
 ·rintro ys H1 ⟨O,s1⟩ ag;rw[aa,Us] at O;exact hQ ys H1 s1 O ag
inductive Ez:Sp
 |mk (t:Addr)(us:List V)(ds:List D)(_:vs= [.ref t])(_:H t=u_ (.tup us))(_:L2.IsL H ds us)(_:∀d∈ds,Dd d)(_:↑ds<=20)(_:∀H',ic H H'->Q (.int (↑(ds.filter KH):Int)) H')
inductive EH (K:PySem.W.Frag):Sp
 |mk (q:Addr)(ns:List Int)(_:vs= [.ref q])(_:SqL K H q (ns.map V.int))(_:∀(t:Addr)(us:List V)(ds:List D)(H':Hp),ic H H'->H' t=u_ (.tup us)->L2.IsL H' ds us->(∀d∈ds,Dd d)->↑ds<=20->Q (.ref t) H')
inductive IZ (K:PySem.W.Frag):Sp
 |mk (q:Addr)(ns:List Int)(_:vs= [.ref q])(_:SqL K H q (ns.map V.int))(_:↑ns<=63)(_:∀H',Q (.bl v_) H')
nonrec def N4:oj Str:= ["a","b1","zz","done"]
def Tm:∀z∈N4,nm z=v_/\↑z<=4:=by decide+kernel
nonrec def W6:oj Str:= ["used","done","done","left","stuck","none"]
nonrec def M5:oj (Key×V):= [(.inr "used",.int 1),(.inr "done",.int 2),(.inr "left",.int 2),(.inr "stuck",.int 1),(.inr "none",.int 0)]
def Aac:∀z∈W6,∃m:Nat,m<=2/\iK (zH [] M5) (UV z)=u_ (.int (m:Int)):=by
 intro z O;unfold W6 at O;simp![uG,uH,uO] at O;rcases O with rfl|rfl|rfl|rfl|rfl|rfl
 ·exact[(1):():1]
 ·exact[(2):():1]
 ·exact[(2):():1]
 ·exact[(2):():1]
 ·exact[(1):():1]
 ·exact[(0):():1]
def Sx:∀z∈W6,↑z<=100:=by decide+kernel
nonrec def NB3:oj Str:= ["a","done","b1"]
def Aau:∀z∈NB3,↑z<=100:=by decide+kernel
def Oz {K:o0}{t:o3}{x y:Int}{m:Nat}(O:H t=u_ (.tup [.int x,.int y]))(hm:m<=2)(k:∀v H' (ds:oj D),ic H H'->↑ds<=2->Is H' (.tup ds) v->Q v H'):ST K (.ref t) US (u_ (m:Int)) H Q:=by
 exists t,0,SqT.of O,λ_=>?_,λ_ p U=>?_
 ·exact k _ _ [.int x,.int y] (ic.refl _) (uj _) ⟨t,0,O,_,0,1,_,0,1,1⟩
 ·refine k _ _ ([D.int x,D.int y].take m) (qf U _) (by rw[vN];omega) ⟨p,0,qg,?_⟩
  rw[AI]
  match m,hm with
  |0,_=>exact rfl
  |1,_=>exact⟨_,0,1,1⟩
  |2,_=>exact⟨_,0,1,_,0,1,1⟩
def O7 (T:Tx K mg a)(C:Fx K w mg g a):∀n,FnOk P w K mg base CX0 (2*n+9) a.JU a.JO ["project","name","way","runs"] (Zk a.qE n)
 |0=>T.md.F.ok Qa (λvs H Q E h=>by erw[h,_,_,_,_,_,_,_,_,_,h0,_];cases h0) (λcdv A outer s H vs Q E O h=>by erw[h,_,_,_,_,_,_,_,_,_,h0,_];cases h0)
 |n+1=>Ib T C n (nU T C n (O7 T C n))
def E4:#[T,1,a.wI,a.wu,["deeds"],Ez]:=by
 exists 9,T.my,ny
 erw[h,t,us,ds,rfl,ht,O,hd,hl,k];have hs:=uD;have ad:↑us=↑ds:=↑O;exists 3,%[|#[qp,#[qy,qN,T.yx,uK,#v[#[xG,["deed"],[],Kz,#[X7,pv 0],(λ_ _ _ _ _ _=>#[qQ,(0),(show Vd (["deed"]:oj Str) by decide+kernel)]),(λ_ _ _ _ _ _=>#[pH,3,#[qr,Qq,#[qI,#[pY,1,K,rfl],pv 0,qh],qj]]),(λ_ _ _ _ _ _=>(pv 0))]]]]]
 exists 0,t,us,1,SqT.of ht,λU A0 Z=>?_;refine PP ht O hd U Z λys H1 s1 aa ac=>?_
 exists A0,0,.inl (SqL.of ac);rw[aa];exact k _ s1
def Ih:#[T,2,a.Zp,a.Z2,["script"],(EH K)]:=by
 have qH:=#[Y4,T];have Jh:=#[pP,T];exists 9,T.mD,Qx,U
 erw[h,q,ns,rfl,hq,k];have hs:=uD;exists 3,%[#[qC,(1),Qx.nd,#[qu,Jh,U.mono (),T.lV,#v[#[qy,#[wy,1,rfl],T.z_sum,HQ,#v[pv 0]],qh]]],#[qC,(2),Qx.nd,#[qB,qd]],#[xf,#[Yy,#v[#[qu,qH,U.mono (),T.ig,#v[pv 1,qh]]]],#[qQ,(3),Qx.nd],%[#[qC,(4),Qx.nd,#[qI,yi,#[QF,#v[qj,qj,qj,qj,qj,qj]],#[qu,qH,U.mono (),T.ig,#v[pv 1,qh]]]],#[qC,(5),Qx.nd,#[qI,yi,#[QF,#v[qj,qj,qj]],#[qu,qH,U.mono (),T.ig,#v[pv 1,qh]]]],#[qC,(6),Qx.nd,#[qB,#v[#[qu,qH,U.mono (),T.ig,#v[pv 1,qh]],#[qu,qH,U.mono (),T.ig,#v[pv 1,qh]]]]],#[qC,(7),Qx.nd,#[Qt,6,QU U,#[Mi,5,#[Xm,#[Xm,#[Xm,#[Xm,#[Xm,Md]]]]],rfl,rfl,(by simp),()],pv 4,(λ_ _=>rfl)]]|#[qC,(2),Qx.nd,#[qY,zp,pv 2,#[qB,#v[#[qY,zp,#[qB,#v[pv 4,pv 5]],#[Xn,pw,pv 6,Zu,#[XT,pv 7]]]]]]]]]|#[qp,pv 2]]
 exists 8,N1,q1
 exists 0,q,ns,1,hq,_,0,(),(),λp H1 aw s1 P1=>q1 _ _ ?_
 exists 8,N2,q2
 exists uW _,λt0 h0=>q2 _ _ ?_;have m0:=qf h0 (.tup ([]:oj V));have e0:upd H1 t0 (.tup []) t0=u_ (.tup []):=qg;have P2:=P1.same m0;generalize upd H1 t0 (.tup [])=H2 at m0 e0 P2⊢;have s2:=s1.trans m0;exists 8,N3,q3
 exists 0,p,0,P2,(),(),λd H3 d0 d1 P3 K3=>?_
 erw[Int.eq_ofNat_of_zero_le d0,n,rfl]
 exists n,1,(),()
 have aF:∀{Hx:Hp}{b:o3}{o:Obj},(∀b o,H b=u_ o->Hx b=u_ o)->True:=λ_=>trivial;have np:∀b o,H b=u_ o->b≠p:=λb o e=>ql e aw
 let J_:Nat->L2.St->Hp->Prop:=λi σ H'=>∃(t:o3) (us:oj V) (ds:oj D) (u3 u4 u5 u6 u7:om V),σ= [u_ (.ref q),u_ (.ref p),u_ (.ref t),u3,u4,u5,u6,u7]/\H' t=u_ (.tup us)/\L2.IsL H' ds us/\(∀d∈ds,Dd d)/\↑ds<=i/\lX H' p/\ic H H'
 refine Zx (n:=n) J_ ⟨t0,[],[],US,US,US,US,US,1,K3 _ _ e0 (λz=>by erw[P2,x,hx,_];rw[z,hx] at e0;cases e0),1,(λd hd=>by cases hd),uj _,P3,λb o e=>K3 _ _ (s2 _ _ e) (np b o e)⟩ ?_ ?_
 ·rintro i σ H4 hi ⟨t,us,ds,u3,u4,u5,u6,u7,rfl,ht,Z,hd,hl,P4,s4⟩;show mQ _ _ _ _ H4;exists 8,B1,b1
  exists sml rfl,λl1 h1=>?_;have m1:=qf h1 (.lst (W6.map V.str));have ae:upd H4 l1 (.lst (W6.map V.str)) l1=u_ (.lst (W6.map V.str)):=qg;have P5:=P4.same m1
  exists 0,p,0,P5,(),(),λd6 H6 a6 b6 P6 K6=>?_
  erw[yZ (xs:=W6.map V.str) (i:=d6) a6 b6,x1,af];erw[Ae.mp (Y7 af),O,ag,rfl]
  exists l1,_,_,0,1,SqL.of (K6 _ _ ae (P5.ne_strs ae)),af,b1 _ _ ?_;have kt:∀{Ha Hb:Hp}{b:o3}{xs:oj V},lX Ha p->Ha b=u_ (.tup xs)->iR p Ha Hb->Hb b=u_ (.tup xs):=λ{Ha Hb b xs} hP h hk=>hk _ _ h λz=>by
   erw[hP,x,hx,_];rw[z,hx] at h;cases h
  have ax:=kt P5 (m1 _ _ ht) K6;have ay:Tk H4 H6:=m1.tk.trans (P5.tk P6 K6);have s6:ic H H6:=λb o e=>K6 _ _ (m1 _ _ (s4 _ _ e)) (np b o e);exists 8,B2,b2
  exists sml rfl,λl2 h2=>?_;have m2:=qf h2 (.lst (NB3.map V.str));have ah:upd H6 l2 (.lst (NB3.map V.str)) l2=u_ (.lst (NB3.map V.str)):=qg;have P7:=P6.same m2
  exists 0,p,0,P7,(),(),λd8 H8 a8 b8 P8 K8=>?_
  erw[yZ (xs:=NB3.map V.str) (i:=d8) a8 b8,x2,ak];erw[Ae.mp (Y7 ak),z2,aB,rfl]
  exists l2,_,_,0,1,SqL.of (K8 _ _ ah (P7.ne_strs ah)),ak,b2 _ _ ?_;have aa:=kt P7 (m2 _ _ ax) K8;have aC:Tk H4 H8:=ay.trans (m2.tk.trans (P7.tk P8 K8));have s8:ic H H8:=λb o e=>K8 _ _ (m2 _ _ (s6 _ _ e)) (np b o e);exists 8,B3,b3
  exists 0,p,0,P8,(),(),λd9 H9 a9 b9 P9 K9=>⟨0,p,0,P9,(),(),λdA HA aA bA PA KA=>[sml rfl:λt3 h3=>b3 _ _ ?_]⟩
  have m3:=qf h3 (.tup [V.int d9,V.int dA]);have e3:upd HA t3 (.tup [V.int d9,V.int dA]) t3=u_ (.tup [V.int d9,V.int dA]):=qg;have al:=m3 _ _ (kt P9 (kt P8 aa K9) KA);have am:Tk H4 (upd HA t3 (.tup [V.int d9,V.int dA])):=(aC.trans ((P8.tk P9 K9).trans (P9.tk PA KA))).trans m3.tk;have sB:ic H (upd HA t3 (.tup [V.int d9,V.int dA])):=λb o e=>m3 _ _ (KA _ _ (K9 _ _ (s8 _ _ e) (np b o e)) (np b o e));have PB:=PA.same m3;generalize upd HA t3 (.tup [V.int d9,V.int dA])=HB at e3 al am sB PB⊢;exists 8,B4,b4;erw[Aac O ag,m,hm,ao];refine λpd ap=>⟨qg,M5,1,(),0,pd,0,(by rw[<-ao];exact mJ.k (k:=UV O) qg),b4 _ _ ?_⟩
  have mC:ic HB (upd (upd HB pd (.dK [])) pd (.dK (zH [] M5))):=λb o e=>by
   rwa[qk (ql e ap),qk (ql e ap)]
  generalize upd (upd HB pd (.dK [])) pd (.dK (zH [] M5))=HC at mC⊢
  exists 0,0,0,sml rfl,λt4 h4=>?_;have m4:=qf h4 (.tup [V.str O,V.str z2]);have l1:=Sx O ag;have l2:=Aau z2 aB;have i4:Is (upd HC t4 (.tup [V.str O,V.str z2])) (.tup [.str O,.str z2]) (.ref t4):=Is.new (ds:= [.str O,.str z2]) ⟨_,0,Ya (),_,0,Ya (),1⟩ h4
  try unfold BL
  exists 0,0,0,Oz (m4 _ _ (mC _ _ e3)) hm λv5 HD ac sD aG i5=>?_;refine sC (i4.mono sD.tk) i5 (by show 2+↑ac<=1000;omega) λv6 HE sE i6=>?_
  exists sml rfl,λt7 h7=>?_;have m7:=qf h7 (.tup [v6]);have ad:=(mC.trans m4).trans ((sD.trans sE).trans m7);refine sC (xs:=ds) (ys:= [.tup ([.str O,.str z2]++ac)]) ⟨t,us,1,ad _ _ al,Z.mono (am.trans ad.tk)⟩ (Is.new (ds:= [.tup ([.str O,.str z2]++ac)]) ⟨_,0,i6,1⟩ h7) (by show ↑ds+1<=1000;omega) λv8 HF sF i8=>?_
  erw[i8,t8,aD,rfl,aa,aq];have au:=ad.trans sF
  exists 5
  refine⟨t8,aD,_,_,_,_,_,0,aa,aq,λd aE=>?_,by rw[uA];show ↑ds+1<=i+1;omega,PB.same au,sB.trans au⟩
  rcases Ac.mp aE with h|h
  ·exact hd d h
  ·cases Ab.mp h;exact[O:0]
 ·rintro σ H4 ⟨t,us,ds,u3,u4,u5,u6,u7,rfl,ht,Z,hd,hl,P4,s4⟩;exact q3 _ _ [0:k t us ds H4 s4 ht Z hd ()]
def O3:#[C,133,a.f_law,a.d_law,["script"],(IZ K)]:=by
 have kS:=#[E7,T];have wP:=#[MG,T];have zq:=#[Ie,T];have jD:FnOk P w K mg base CX0 132 a.jq a.jG ["project","name","way","runs"] (Xv a.qE 61):=nU T C 61 (O7 T C 61);have aa:=#[EZ,T,C];have O:=#[Ih,T];have U:=#[E4,T];refine T.Ay.F.ok J2 () (λ_ _ _ s H vs Q E hr h=>?_)
 erw[h,q,ns,rfl,hq,a8,k];have hs:=uD;exists 3,%[#[qC,(1),J2.nd,#[wK,T.M_Project,wP,T.m_Project,T.lS,qz,#v[#[Ql,Qn,T.Q8,vE,#v[#[qu,kS,hr.mono (),T.lZ,#v[pv 0]]]]]]],#[qC,(2),J2.nd,Xg],#[xf,#[pI,4,#[qY,ww,#[qu,zq,hr.mono (),T.lh,#v[pv 0,qh,qh]],#[QF,#v[qj,qj,qj,qj]]]],#[qQ,(3),J2.nd],%[#[qZ,#[qu,jD,hr.mono (),T.li,#v[pv 1,pv 3,#[QF,qd],pv 2]]],#[qC,(4),J2.nd,qP],#[qG,#[pt_cmp,#[Aj,5,QU hr,pv 3,pv 2]],%[#[ZH,#[Qt,pv 2,pv 3],#[wA,QC #[qQ,(5),J2.nd] (QC #[qQ,(6),J2.nd] Jb)]]|@qG _ _ _ _ _ _ _ _ #[s9,7,#[qr,W8,pv 5,qP],#[ki,4,#[qr,EX,#[qI,qF,#[qI,qF,pv 6,qh],qh],qj]]].pt %[|#[qC,(4),J2.nd,#[qB,#v[pv 5,pv 3,pv 6]]]] qw],qw]|#[qG,#[qr,OX hr.units,#[qu,aa,hr.mono (),T.oG,#v[pv 1,pv 3]],pv 4],%[|#[qp,jw]],qw]]],#[qC,(7),J2.nd,#[qu,O,hr.mono (),T.mD,#v[pv 0]]],#[qC,(8),J2.nd,#[qu,U,hr.mono (),T.my,#v[pv 7]]]|#[qp,#[pe_and,#[qy,#[qV,2,rfl],T.qT,uV,#v[pv 8,#[Q1,.ty "int",T.z_int,boot_int]]],#[Wv,#[yT,Qq,pv 8,#[qy,qN,T.yx,uK,#v[#[xG,["deed"],[],Kz,#[X7,pv 7],(λ_ _ _ _ _ _=>#[qQ,(0),(show Vd (["deed"]:oj Str) by decide+kernel)]),(λ_ _ _ _ _ _=>#[pH,3,#[qr,Qq,#[qI,#[pY,1,K,rfl],pv 0,qh],qj]]),(λ_ _ _ _ _ _=>(pv 0))]]],qA _]]]]]
 exists 8,N1,q1
 exists 0,q,ns,1,hq,λL ps us H1 s1 hL ad hok a9 ba=>?_
 exists L,us,1,.inl [SqL.of hL:λt ht=>?_];have m1:=qf ht (.tup us);intro x dx nx aM bb;have m2:ic (upd H1 t (.tup us)) (upd (upd (upd H1 t (.tup us)) dx (.own x)) x (.ins a.qE dx [])):=λb ob e=>by
  rwa[qk (ql e nx),qk (ql e aM)]
 have ao:=m1.trans m2
 exists x,dx,t,ps,us,1,qg,m2 _ _ qg,ad.mono ao.tk,hok,(),λqs H2 keep hP hT aN=>[1:q1 _ _ ?_]
 have s2:ic H1 H2:=λb ob e=>keep b ob (ao _ _ e) (ql (m1 _ _ e) nx);have hq:=BQ hq (s1.trans s2);exists 8,N2,q2;refine λrd ap=>q2 _ _ ?_;have m3:=qf ap (.dK ([]:oj (Key×V)));have aq:wQ (upd H2 rd (.dK [])) rd []:=⟨[],qg,1,1⟩;have au:=BQ hq m3;have aw:=hP.same m3;generalize upd H2 rd (.dK [])=H3 at m3 aq au aw⊢;exists 8,N3,q3
 exists 0,q,ns,_,(10),1,au,(),(),(),λl zs H4 s4 hl aO ag=>?_
 exists sml rfl,λl2 h2=>?_;have m5:=qf h2 (.lst [V.str "a",V.str "b1",V.str "zz",V.str "done"])
 exists l,l2,_,0,1,m5 _ _ hl,qg,(by rw[ue,ag];show 10+4<=UX;omega),λl3 h3=>?_
 have m6:=qf h3 (.lst (zs.map V.str++ [V.str "a",V.str "b1",V.str "zz",V.str "done"]));have eN:(upd (upd H4 l2 (.lst [V.str "a",V.str "b1",V.str "zz",V.str "done"])) l3 (.lst (zs.map V.str++ [V.str "a",V.str "b1",V.str "zz",V.str "done"]))) l3=u_ (.lst ((zs++N4).map V.str)):=by rw[qg,uz];rfl
 have sH:=s4.trans (m5.trans m6);generalize upd (upd H4 l2 (.lst [V.str "a",V.str "b1",V.str "zz",V.str "done"])) l3 (.lst (zs.map V.str++ [V.str "a",V.str "b1",V.str "zz",V.str "done"]))=H6 at eN sH⊢;have ax:∀z∈zs++N4,nm z=v_/\↑z<=4:=λz hz=>by
  rcases Ac.mp hz with h|h
  ·exact aO z h
  ·exact Tm z h
 have ah:=aq.same sH;have aP:=aw.same sH;have dk:∀{Hx:Hp}{es:oj (Str×D)},wQ Hx rd es->∀p∈ [rd],(∃xs,Hx p=u_ (.lst xs))∨(∃xs,Hx p=u_ (.dK xs))∨Hx p=none:=λh p hp=>by
  cases Ab.mp hp;erw[h,vs,h,_];exact .inr (.inl [_:h])
 have aQ:l3∉ [rd]:=λz=>by
  erw[ah,vs,h,_];rw[<-Ab.mp z,eN] at h;cases h
 exists l3,1,[_:SqL.of eN]
 let J_:Nat->L2.St->Hp->Prop:=λi σ H'=>(∃u3 u4 u5 u6 u7 u8,σ= [u_ (.ref q),u_ (.ref x),u_ (.ref rd),u3,u4,u5,u6,u7,u8])/\(∃es,wQ H' rd es/\ROk qs es)/\Kp [rd] H6 H'
 refine AC (xs:=(zs++N4).map V.str) J_ ⟨⟨_,_,_,_,_,0⟩,⟨[],ah,vG,λe he=>by cases he⟩,Kp.of (ic.refl _)⟩ (λi σ H' _ h=>SqL.of (h.2.2.kept _ _ eN aQ)) ?_ ?_
 ·rintro i y σ Ha hy ⟨⟨u3,u4,u5,u6,u7,u8,rfl⟩,⟨es,ay,aA⟩,ka⟩;erw[Ae.mp (vi hy),z,hz,rfl];have aB:=(ax z hz).1;have aC:=(ax z hz).2;have aR:Yb a.qE Ha x qs:=aP.kp ka (dk ah);show mQ _ _ _ _ Ha;exists 8,B1,b1
  exists 0,0,uW _,λl0 h0=>?_;have m0:=qf h0 (.lst ([]:oj V));have e0:upd Ha l0 (.lst []) l0=u_ (.lst (([]:oj Str).map V.str)):=qg;have ak:=ay.same m0;have al:=aR.same m0;have kb:=ka.trans (Kp.of m0);generalize upd Ha l0 (.lst [])=Hb at m0 e0 ak al kb⊢
  exists 0,x,l0,rd,z,qs,es,[],1,al,hT,e0,(λy hy=>by cases hy),vG,(),ak,aA,aB,λv Hc es' hA aS iv=>b1 _ _ ?_
  have kc:=kb.trans hA.kp;have aT:=al.kp hA.kp (dk ak);exists 8,B2,b2;refine b2 _ _ ?_;exists 8,B3,b3;have aD:nuD (Eh qs z)/\dp (Eh qs z)<=60:=by
   unfold Eh;cases hg:g0D z (qS qs z) with
   |none=>exact⟨.inl rfl,by simp[dp]⟩
   |some s=>exact Ob (oz hT hg 302).1 (oy hg)
  have go:∀(dv:V) (u5 u6:om V) (Hd:Hp),ic Hc Hd->Is Hd (Eh qs z) dv->B3 [u_ (.ref q),u_ (.ref x),u_ (.ref rd),u_ (.str z),u_ dv,u5,u6,u7,u8] Hd:=by
   intro dv u5 u6 Hd sd aU;refine b3 _ _ ?_
   exists 0,0,x,z,qs,1,aB,aT.same sd,hT,λv Hf sf iv=>⟨0,Eh qs z,iv,aU.mono sf.tk,aD.1,aD.2,?_⟩;exact[0:iS [⟨_,_,_,_,_,0⟩:[es':hA.tb.same (sd.trans sf):hA.ok]:kc.trans (Kp.of (sd.trans sf))]]
  erw[id hA.tb,vs,aE,aF,aG]
  exists 0,0,rd,0,mJ.k (k:=UV z) aE,0;rw[se aF aG z];by_cases cr:z∈es'.map (·.1)
  ·refine lP (ud cr) ?_;erw[n9 aF aG cr,l1,l2];erw[Ae.mp cr,[m',d'],aH,rfl];erw[hA.ok.run _ aH,s',ae,am];have ae:g0D m' (qS qs m')=u_ s':=ae;have am:d'=Nv (itP qs 302 s'):=am;rw[AH hA.ok.nd aH,am] at l2;erw[DP hT ae,ek,ex,af];have hw:Eh qs m'=pf m' (itP qs 302 s'):=by unfold Eh;rw[ae]
   have go:∀(dv:V) (u5 u6:om V) (Hd:Hp),ic Hc Hd->Is Hd (pf m' (itP qs 302 s')) dv->B3 [u_ (.ref q),u_ (.ref x),u_ (.ref rd),u_ (.str m'),u_ dv,u5,u6,u7,u8] Hd:=λdv u5 u6 Hd sd i=>go dv u5 u6 Hd sd (by rwa[hw])
   generalize itP qs 302 s'=p at l2 af go;unfold Nv at l2;rw[af] at l2;erw[l2,t1,u1,e1,aV,x1,r1,rfl,ac,x2,r2,rfl,[t2,u2,rfl,aI,x3,r3,rfl,aW,x4,r4,rfl,[t3,bc,rfl,aJ,x5,r5,rfl,[rfl,aX],x6,r6,rfl,aY,aZ],a1],a2];cases(show r2= [] from a2)
   cases(show r4= [] from a1)
   cases(show r6= [] from aZ)
   rw[e1] at l1;show mQ _ _ _ _ Hc;exists 8,C1,c1
   exists 0,0,rd,0,(by rw[<-l1];exact mJ.k (k:=UV m') aE),t1,0,SqT.of aV,1
   exists _,0,_,0,1,c1 _ _ ?_
   exists 0,1,0;cases Z:p.run with
   |none=>
    rw[Z] at ac;cases(show x1= .non from ac)
    refine lr rfl (lr rfl (go _ _ _ Hc (ic.refl _) ?_));unfold pf;rw[Z];exact rfl
   |some qq=>
    rw[Z] at ac;have a3:x1≠ .non:=JC ac λz=>by cases z
    have aK:pf m' p=if Bp (p.en.getD .non)=v_ then .non else .tup [Yp qq.1,.str m',.tup [.tup (Yr p.run),p.en.getD .non]]:=by unfold pf;rw[Z]
    have aL:Bp (p.en.getD .non)=decide (ek="stuck"):=by rw[af];rfl
    refine lP (by simpa using a3) ?_
    exists 0,t2,_,_,0,1,SqT.of aI,qU (j:=1) rfl,t3,_,_,0,1,SqT.of aJ,qU (j:=0) rfl,1,0;by_cases ck:ek="stuck"
    ·refine lr (by simp[ck]) (go _ _ _ Hc (ic.refl _) ?_)
     rw[aK,aL,A6 (ud ck)];exact rfl
    ·refine lP (by simpa using ck) ?_
     exists 0,0,0,sml rfl,λt5 h5=>?_;have m5:=qf h5 (.tup [x1,V.str m',V.ref t2]);have aC:↑m'<=4:=aC;refine go _ _ _ _ m5 ?_;rw[aK,aL,A4 (by rw[uf ck];exact uc),af]
     exact Is.new (ds:= [_,.str m',.tup [.tup (Yr p.run),.tup [.str ek,ex]]]) ⟨_,0,ac,_,0,Ya (),_,0,⟨t2,0,aI,_,0,aW,_,0,⟨t3,0,aJ,_,0,[1:aX],_,0,aY,1⟩,1⟩,1⟩ h5
  ·refine lr (uf cr) (go .non _ _ Hc (ic.refl _) ?_);unfold Eh;cases hg:g0D z (qS qs z) with
   |none=>exact rfl
   |some s=>exact A8 (aS (by simp) s hg) cr
 ·rintro σ Ha ⟨⟨u3,u4,u5,u6,u7,u8,rfl⟩,⟨es,ay,aA⟩,ka⟩;refine q3 _ _ ?_;have sa:ic H2 Ha:=λb ob e=>ka.kept b ob (sH _ _ (m3 _ _ e)) (λz=>by cases Ab.mp z;rw[ap] at e;cases e)
  exists 8,N5,q5
  exists 0,q,ns,1,BQ hq sa,λt us ds Hb sb ht ad hd hl=>q5 _ _ ?_;exists 8,N6,q6
  exists 0,t,us,ds,1,ht,ad,hd,hl,λHc sc=>q6 _ _ ?_
  exists 0,.int _,"int",.type "int",v_,1,Is.ty (d:= .int _) rfl,Kf ()
  exists 0,lP rfl ?_
  exists 0,0,t,us,1,SqT.of (sc _ _ ht),λa4 A0 a5=>?_;refine PP (sc _ _ ht) (ad.mono sc.tk) hd a4 a5 λys Hd sd a6 a7=>?_
  exists A0,0,.inl (SqL.of a7),1;rw[a6,ud rfl];exact k _
end
def Sz {K:o0}{h:o8}{mg:Str->om o6}(X:K.In h)(G:h.Ns Vc mg){U Z O aa f1 f2 f3 f4 f5 f6 f7 f8 f9 aU aV aW aX aY aZ a1 a2 a3 a4 a5 a6 a7 a8 a9 ba bb bc bd be bf bg bh bo bp bq bt bu bv bw bx bA bB bC bD bE bF bG bH bI bJ bK bL bM bN bO bP bQ bR bS bT bU bV bW bX bY bZ b3 b4 b5 b6 b7 b8 b9 ca cb cc cd ce cf cg ch ci cj ck:o3}{t1 t2 t3 t4 t5 t6 t7 t8 t9 cm cn:Tok}
  (aK:#[K,"Machine"]=u_ (u_ (.ref U))) (aL:Cls K U) (aB:PySem.W.makesIn K U=v_/\PySem.W.keepIn K (.ref U)=v_)
  (aO:#[K,"Going"]=u_ (u_ (.ref Z))) (aP:Cls K Z) (aJ:PySem.W.makesIn K Z=v_/\PySem.W.keepIn K (.ref Z)=v_)
  (aD:#[K,"PlainOrder"]=u_ (u_ (.ref O))) (aE:Cls K O) (af:PySem.W.makesIn K O=v_/\PySem.W.keepIn K (.ref O)=v_)
  (aM:#[K,"Project"]=u_ (u_ (.ref aa))) (aN:Cls K aa) (aC:PySem.W.makesIn K aa=v_/\PySem.W.keepIn K (.ref aa)=v_)
  (h1:FZg K "is_text" wc f1)
  (h2:FZg K "is_tree" XA f2)
  (h3:FZg K "is_name" ZN f3)
  (h4:FZg K "is_pair" Z9 f4)
  (h5:FZg K "is_row_of_names" yQ f5)
  (h6:FZg K "is_answer" xw f6)
  (h7:FZg K "part_of" ZJ f7)
  (h8:FZg K "pieces_of" xL f8)
  (h9:FZg K "row_of" Zm f9)
  (h10:FZg K "read_lines" Je aU)
  (h11:FZg K "rule_rows" xk aV)
  (h12:FZg K "bad_line" ze aW)
  (h13:FZg K "is_rule" ZM aX)
  (cp:FZg K "text_made" xm aY)
  (cq:FZg K "self_made" xQ aZ)
  (cr:FZg K "copy_made" xl a1)
  (cs:FZg K "row_made" X3 a2)
  (cu:FZg K "put_made" X8 a3)
  (cv:FZg K "join_made" xM a4)
  (cw:FZg K "first_made" Ja a5)
  (cx:FZg K "rest_made" xu a6)
  (cy:FZg K "size_made" xq a7)
  (cz:FZg K "cut_made" zc a8)
  (cA:FZg K "glue_made" xt a9)
  (cB:FZg K "is_jump_taken" YJ ba)
  (cC:FZg K "asked_or_fault" Yd bb)
  (aQ:FZm K U "__init__" "Machine.__init__" Y2 bc)
  (cD:FZm K U "now" "Machine.now" js bd)
  (cE:FZm K U "answer" "Machine.answer" Ye be)
  (cF:FZm K U "asked" "Machine.asked" YC bf)
  (cG:FZm K U "go_on" "Machine.go_on" YB bg)
  (cH:FZm K U "is_waiting" "Machine.is_waiting" Q9 bh)
  (cI:FZm K U "do_row" "Machine.do_row" Yg bo)
  (cJ:FZm K U "hold" "Machine.hold" Y5 bp)
  (aR:FZm K Z "__init__" "Going.__init__" JA bq)
  (cK:FZm K Z "begin" "Going.begin" jp bt)
  (cL:FZm K Z "look" "Going.look" JF bu)
  (cM:FZm K Z "wanted" "Going.wanted" Y8 bv)
  (cN:FZm K Z "take" "Going.take" JE bw)
  (cO:FZm K Z "full" "Going.full" j3 bx)
  (aS:FZm K O "__init__" "PlainOrder.__init__" yR bA)
  (cP:FZm K O "begin_anew" "PlainOrder.begin_anew" QK bB)
  (cQ:FZm K O "go_through" "PlainOrder.go_through" QM bC)
  (cR:FZm K O "enter" "PlainOrder.enter" yD bD)
  (cS:FZm K O "settle" "PlainOrder.settle" yn bE)
  (cT:FZm K O "runner" "PlainOrder.runner" yl bF)
  (cU:FZm K O "leave" "PlainOrder.leave" yw bG)
  (cV:FZm K O "go_on" "PlainOrder.go_on" yH bH)
  (cW:FZm K O "answer_yet" "PlainOrder.answer_yet" QP bI)
  (cX:FZg K "answer_at_once" Yl bJ)
  (cY:FZg K "has_run" Zt bK)
  (cZ:FZg K "answer_by" xJ bL)
  (c0:FZg K "check_name" Jr bM)
  (c1:FZg K "check_names" jE bN)
  (c2:FZg K "order_from" Jo bO)
  (c3:FZg K "order_over" Jc bP)
  (c4:FZg K "runs_done" xz bQ)
  (c5:FZg K "way_of" kK bR)
  (c6:FZg K "way_in" kD bS)
  (c7:FZg K "way_by" W2 bT)
  (c8:FZg K "is_source" xF bU)
  (aT:FZm K aa "__init__" "Project.__init__" y7 bV)
  (c9:FZm K aa "sources" "Project.sources" jh bW)
  (da:FZm K aa "source_of" "Project.source_of" yf bX)
  (de:FZm K aa "looked_up" "Project.looked_up" QO bY)
  (dh:FZg K "longest_row" jv bZ)
  (di:FZg K "_law_cell_at" jy b3)
  (dj:FZg K "_law_pot" Zz b4)
  (dk:FZg K "_law_take" XZ b5)
  (dl:FZg K "_law_word" X9 b6)
  (dm:FZg K "_law_line" JM b7)
  (dq:FZg K "_law_rule" JR b8)
  (dt:FZg K "_law_maker" xS b9)
  (dv:FZg K "_law_leaf" JT ca)
  (dw:FZg K "_law_source" Jd cb)
  (dy:FZg K "_law_all_names" Yv cc)
  (dz:FZg K "_law_link" XQ cd)
  (dA:FZg K "_law_sources" jH ce)
  (dB:FZg K "_law_wide_names" Yj cf)
  (dC:FZg K "_law_drawn_names" Q5 cg)
  (dD:FZg K "_law_asked" xI ch)
  (dE:FZg K "_law_full" XU ci)
  (dF:FZg K "_law_deeds" xi cj)
  (dG:FZg K "law" LX ck)
  (ax:#[K,U,"rows"])
  (ay:#[K,U,"rule"])
  (aF:#[K,U,"own"])
  (ao:#[K,U,"boxes"])
  (ap:#[K,U,"place"])
  (aA:#[K,U,"done"])
  (aq:#[K,U,"given"])
  (au:#[K,U,"there"])
  (aH:#[K,Z,"name"])
  (aG:#[K,Z,"order"])
  (aw:#[K,Z,"made_by"])
  (ak:#[K,Z,"rule_asks"])
  (am:#[K,Z,"rule_run"])
  (aI:#[K,Z,"end"])
  (ac:#[K,O,"given_project"])
  (ag:#[K,O,"stack"])
  (ad:#[K,O,"under_way"])
  (ae:#[K,O,"full_runs"])
  (ah:#[K,O,"found"])
  (al:#[K,aa,"by_name"])
  (g1:#[K,"MOST_SIGNS"]=u_ (u_ (.int 300 t1)))
  (g2:#[K,"MOST_PARTS"]=u_ (u_ (.int 40 t2)))
  (g3:#[K,"MOST_SIZE"]=u_ (u_ (.int 600 t3)))
  (g4:#[K,"MOST_DEPTH"]=u_ (u_ (.int 12 t4)))
  (g5:#[K,"MOST_NAME_SIGNS"]=u_ (u_ (.int 24 t5)))
  (g6:#[K,"LETTERS"]=u_ (u_ (.str "abcdefghijklmnopqrstuvwxyz" t6)))
  (g7:#[K,"NAME_SIGNS"]=u_ (u_ (.str "abcdefghijklmnopqrstuvwxyz0123456789./" t7)))
  (g8:#[K,"PERCENT"]=u_ (u_ (.int 37 t8)))
  (g9:#[K,"MOST_LINES"]=u_ (u_ (.int 40 t9)))
  (dH:#[K,"MOST_DONE"]=u_ (u_ (.int 300 cm)))
  (dI:#[K,"MOST_NAMES"]=u_ (u_ (.int 60 cn)))
  (zz:∀x∈(["ord","len","isinstance","str","tuple","all","int","range","zip","dict","sorted","abs","min","sum","max"]:oj Str),PySem.W.nsIn K Vc x=u_ US):∃a,Tx K mg a:=by
 exists 6,d1,F1,Qb,h1,["value"];exists 6,d2,F2,Qb,h2,["value"];exists 6,d3,F3,Qb,h3,["value"];exists 6,d4,F4,Qb,h4,["value"];exists 6,d5,F5,Qb,h5,["tree"];exists 6,d6,F6,Qb,h6,["ask","answer"];exists 6,d7,F7,Qb,h7,["kind","piece","count"];exists 6,d8,F8,Qb,h8,["line","form"];exists 6,d9,F9,Qb,h9,["line","count"];exists 6,dJ,dL,Qb,h10,["value"];exists 6,dM,dN,Qb,h11,["tree"];exists 6,dO,dP,Qb,h12,["tree"];exists 6,dQ,dR,Qb,h13,["value"];exists 6,dS,dU,Qb,cp,["boxes","own","parts"];exists 6,dV,dW,Qb,cq,["boxes","own","parts"];exists 6,dX,dY,Qb,cr,["boxes","own","parts"];exists 6,dZ,d0,Qb,cs,["boxes","own","parts"];exists 6,ea,eb,Qb,cu,["boxes","own","parts"];exists 6,ec,ed,Qb,cv,["boxes","own","parts"];exists 6,ef,eg,Qb,cw,["boxes","own","parts"];exists 6,eh,ei,Qb,cx,["boxes","own","parts"];exists 6,ej,ek,Qb,cy,["boxes","own","parts"];exists 6,el,em,Qb,cz,["boxes","own","parts"];exists 6,eo,eq,Qb,cA,["boxes","own","parts"];exists 6,er,et,Qb,cB,["boxes","word","parts"];exists 6,eu,ew,Qb,cC,["word","held"];obtain⟨ey,ez⟩:=yW aQ ["self","rule","own"] (by rfl');obtain⟨eA,eB⟩:=yW cD ["self"] (by rfl');obtain⟨eC,eD⟩:=yW cE ["self","tree"] (by rfl');obtain⟨eE,eF⟩:=yW cF ["self"] (by rfl');obtain⟨eG,eH⟩:=yW cG ["self"] (by rfl');obtain⟨eI,eJ⟩:=yW cH ["self"] (by rfl');obtain⟨eK,eL⟩:=yW cI ["self","row"] (by rfl');obtain⟨eM,eN⟩:=yW cJ ["self","box","tree"] (by rfl');obtain⟨eO,eP⟩:=yW aR ["self","name","source","order"] (by rfl');obtain⟨eQ,eR⟩:=yW cK ["self","rule"] (by rfl');obtain⟨eS,eT⟩:=yW cL ["self"] (by rfl');obtain⟨eU,eV⟩:=yW cM ["self"] (by rfl');obtain⟨eW,eX⟩:=yW cN ["self","answer"] (by rfl');obtain⟨eY,eZ⟩:=yW cO ["self"] (by rfl');obtain⟨e0,e1⟩:=yW aS ["self","project"] (by rfl');obtain⟨e2,e3⟩:=yW cP ["self","project"] (by rfl');obtain⟨e4,e5⟩:=yW cQ ["self","name"] (by rfl');obtain⟨e6,e7⟩:=yW cR ["self","name"] (by rfl');obtain⟨e8,e9⟩:=yW cS ["self","going"] (by rfl');obtain⟨fa,fb⟩:=yW cT ["self","rule","own"] (by rfl');obtain⟨fc,fe⟩:=yW cU ["self","going"] (by rfl');obtain⟨ff,fg⟩:=yW cV ["self","going"] (by rfl');obtain⟨fh,fi⟩:=yW cW ["self","name"] (by rfl');exists 6,fj,fm,Qb,cX,["source"];exists 6,fo,fq,Qb,cY,["source"];exists 6,ft,fu,Qb,cZ,["end"];exists 6,fv,fw,Qb,c0,["name"];exists 6,fx,fy,Qb,c1,["names"];exists 6,fz,fA,Qb,c2,["project","name"];exists 6,fB,fC,Qb,c3,["project","names"];exists 6,fD,fE,Qb,c4,["deeds"];exists 6,fF,fG,Qb,c5,["project","name"];exists 6,fH,fI,Qb,c6,["order","name"];exists 6,fJ,fK,Qb,c7,["rule","own","run"];exists 6,fL,fM,Qb,c8,["value"];obtain⟨fN,fO⟩:=yW aT ["self","sources"] (by rfl');obtain⟨fP,fQ⟩:=yW c9 ["self"] (by rfl');obtain⟨fR,fS⟩:=yW da ["self","name"] (by rfl');obtain⟨fT,fU⟩:=yW de ["self","ask"] (by rfl');exists 6,fV,fW,Qb,dh,["names"];exists 6,fX,fY,Qb,di,["script","k"];exists 6,fZ,f0,Qb,dj,["cell","salt"];exists 6,ga,gb,Qb,dk,["pot","many"];exists 6,gc,ge,Qb,dl,["pot","names"];exists 6,gf,gg,Qb,dm,["pot","names","many","k"];exists 6,gh,gj,Qb,dq,["pot","names"];exists 6,gk,gl,Qb,dt,["pot","names"];exists 6,gm,gp,Qb,dv,["pot","names"];exists 6,gq,gr,Qb,dw,["pot","names"];exists 6,gt,gu,Qb,dy,["script"];exists 6,gv,gw,Qb,dz,["pot","names","k"];exists 6,gx,gy,Qb,dA,["script"];exists 6,gz,gA,Qb,dB,["script"];exists 6,gB,gC,Qb,dC,["script","salt","many"];exists 6,gD,gE,Qb,dD,["project","name","way","runs"];exists 6,gF,gG,Qb,dE,["project","name","way","runs"];exists 6,gH,gI,Qb,dF,["script"];exists 6,gJ,gK,Qb,dG,["script"];have z:∀x∈(["ord","len","isinstance","str","tuple","all","int","range","zip","dict","sorted","abs","min","sum","max"]:oj Str),mg x=none:=λx hx=>PySem.W.mg_none_of X G (zz x hx);simp![uG,vf,uO,forall_eq_or_imp,forall_eq] at z;erw[z,z1,z2,z3,z4,z5,z6,z7,z8,z9,gL,gM,gN,gO,gP,gQ];exact[⟨f1,d1,f2,d2,f3,d3,f4,d4,f5,d5,f6,d6,f7,d7,f8,d8,f9,d9,aU,dJ,aV,dM,aW,dO,aX,dQ,aY,dS,aZ,dV,a1,dX,a2,dZ,a3,ea,a4,ec,a5,ef,a6,eh,a7,ej,a8,el,a9,eo,ba,er,bb,eu,bc,ey,bd,eA,be,eC,bf,eE,bg,eG,bh,eI,bo,eK,bp,eM,bq,eO,bt,eQ,bu,eS,bv,eU,bw,eW,bx,eY,bA,e0,bB,e2,bC,e4,bD,e6,bE,e8,bF,fa,bG,fc,bH,ff,bI,fh,bJ,fj,bK,fo,bL,ft,bM,fv,bN,fx,bO,fz,bP,fB,bQ,fD,bR,fF,bS,fH,bT,fJ,bU,fL,bV,fN,bW,fP,bX,fR,bY,fT,bZ,fV,b3,fX,b4,fZ,b5,ga,b6,gc,b7,gf,b8,gh,b9,gk,ca,gm,cb,gq,cc,gt,cd,gv,ce,gx,cf,gz,cg,gB,ch,gD,ci,gF,cj,gH,ck,gJ,U,Z,O,aa⟩:⟨F1,F2,F3,F4,F5,F6,F7,F8,F9,dL,dN,dP,dR,dU,dW,dY,d0,eb,ed,eg,ei,ek,em,eq,et,ew,ez,eB,eD,eF,eH,eJ,eL,eN,eP,eR,eT,eV,eX,eZ,e1,e3,e5,e7,e9,fb,fe,fg,fi,fm,fq,fu,fw,fy,fA,fC,fE,fG,fI,fK,fM,fO,fQ,fS,fU,fW,fY,f0,gb,ge,gg,gj,gl,gp,gr,gu,gw,gy,gA,gC,gE,gG,gI,gK,aL,⟨aB.1,aQ.1,aQ.2.1,aB.2⟩,uP X G aK,ax,ay,aF,ao,ap,aA,aq,au,aP,⟨aJ.1,aR.1,aR.2.1,aJ.2⟩,uP X G aO,aH,aG,aw,ak,am,aI,aE,⟨af.1,aS.1,aS.2.1,af.2⟩,uP X G aD,ac,ag,ad,ae,ah,aN,⟨aC.1,aT.1,aT.2.1,aC.2⟩,uP X G aM,al,[_:uP X G g1],[_:uP X G g2],[_:uP X G g3],[_:uP X G g4],[_:uP X G g5],[_:uP X G g6],[_:uP X G g7],[_:uP X G g8],[_:uP X G g9],[_:uP X G dH],[_:uP X G dI],z1,z2,z3,z4,z5,z6,z7,z8,z9,gL,gM,gN,gO,gP,gQ⟩]
variable {K:o0}{h:o8}{mg:Str->om o6}{f:o3}{x:Str}
def mk1 (X:K.In h)(G:h.Ns Vc mg){O:o3}{y:Str}(z:∃m,PySem.W.nsIn K Vc y=u_ (u_ (.ref m))/\PySem.W.nsIn K O x=u_ (u_ (.ref m)))(e:mg y=u_ (.ref f)):PySem.W.nsIn K O x=u_ (u_ (.ref f)):=by
 erw[z,m,h1,h2];have:=(uP X G h1).symm.trans e;injection this with this
 injection this with this
 rw[<-this];exact h2
nonrec def MKP:oj (Str×Str):= [("text","text_made"),("self","self_made"),("copy","copy_made"),("row","row_made"),("put","put_made"),("join","join_made"),("first","first_made"),("rest","rest_made"),("size","size_made"),("cut","cut_made"),("glue","glue_made")]
nonrec def Pq (e:VY):om Str:=match e.key with
 | .str x _=>u_ x
 |_=>US
variable {a:o3}{n:Nat}{z:Str}
def none_of {es:Array VY}(hl:K.lookup a=u_ ⟨.type "dict",US,.dict es n,#[]⟩)(hk:es.toList.map Pq=FRM.map λx=>u_ x.1)(hz:J7 z=US):PySem.W.nsIn K a z=u_ none:=by
 have h1:∀e∈es.toList,∃x t,e.key= .str x t/\x≠z:=by
  intro e U;have hm:Pq e∈es.toList.map Pq:=Ae.mpr [e:U:1];rw[hk] at hm;erw[Ae.mp hm,x,Z,ex];have O:=Zo hz x Z;unfold Pq at ex;split at ex
  ·rename_i y t hy
   cases ex;exact⟨_,_,hy,O⟩
  ·cases ex
 unfold PySem.W.nsIn;rw[hl]
 try dsimp only
 have f1:es.toList.find? (λe=>e.key.isStr z)=none:=by
  rw[Ue];intro e U;erw[h1 e U,x,t,Z,O];rw[Z];exact λq=>O (uu q)
 have f2:es.toList.any (·.refKey)=false:=by
  rw[tq];intro e U;erw[h1 e U,x,t,Z,O];unfold rC;rw[Z];exact uc
 rw[f1,f2]
 rfl
def Aan {w:og}{K:o0}{h:o8}{mg:Str->om o6}{a:Ad}(T:Tx K mg a)(X:K.In h)(G:h.Ns Vc mg){aB aA aF Z O U:o3}{eF eM:Array VY}{nF nM:Nat}
  (gB:#[K,"BOXES"]=u_ (u_ (.ref aB))) (gA:#[K,"ASKING"]=u_ (u_ (.ref aA))) (gF:#[K,"FORMS"]=u_ (u_ (.ref aF))) (gM:#[K,"MAKERS"]=u_ (u_ (.ref Z)))
  (lB:TZ K aB BX) (lA:TZ K aA ["ask","has","names"]) (lF:K.lookup aF=u_ ⟨.type "dict",US,.dict eF nF,#[]⟩) (lM:K.lookup Z=u_ ⟨.type "dict",US,.dict eM nM,#[]⟩)
  (kF:PySem.W.KeysLit w.params eF.toList) (kM:PySem.W.KeysLit w.params eM.toList) (zF:(aF==Ve)=UT) (zM:(Z==Ve)=UT)
  (fF:∀x∈FRM,TZn K aF x.1 (x.2.map Kd.t)) (fM:∀p∈MKP,∃m,PySem.W.nsIn K Vc p.2=u_ (u_ (.ref m))/\PySem.W.nsIn K Z p.1=u_ (u_ (.ref m))) (oM:∀z∈RT,PySem.W.nsIn K Z z=u_ US)
  (kk:eF.toList.map Pq=FRM.map λx=>u_ x.1)
  (g1:#[K,"BadRule"]=u_ (u_ (.ref O))) (b1:PySem.W.excIn K O VE "ValueError.__new__"=v_)
  (g2:#[K,"BadName"]=u_ (u_ (.ref U))) (b2:PySem.W.excIn K U VE "ValueError.__new__"=v_):∃g,Fx K w mg g a:=by
 exists ⟨aB,aA,aF,Z,O,U⟩,⟨uP X G gB,uP X G gA,uP X G gF,uP X G gM,λH=>lB.sq (),λH=>lA.sq (),⟨zF,eF,nF,lF,kF⟩,λx hx=>?_,⟨zM,eM,nM,lM,kM⟩,mk1 X G (fM ("text","text_made") ()) T.jB.m,mk1 X G (fM ("self","self_made") ()) T.lc.m,mk1 X G (fM ("copy","copy_made") ()) T.lp.m,mk1 X G (fM ("row","row_made") ()) T.lJ.m,mk1 X G (fM ("put","put_made") ()) T.lL.m,mk1 X G (fM ("join","join_made") ()) T.lj.m,mk1 X G (fM ("first","first_made") ()) T.iT.m,mk1 X G (fM ("rest","rest_made") ()) T.lf.m,mk1 X G (fM ("size","size_made") ()) T.ky.m,mk1 X G (fM ("cut","cut_made") ()) T.lN.m,mk1 X G (fM ("glue","glue_made") ()) T.lm.m,oM,λz hz=>none_of lF kk hz,uP X G g1,b1,uP X G g2,b2⟩
 erw[fF x hx,q,h1,h2];exact⟨q,h1,λH=>by rw[zd];exact h2.sq (by rw[ue];exact uQ (AB x hx) ())⟩
end K35
open PySem PySem.W PyProof.Rows L2
set_option maxRecDepth 100000 in
set_option maxHeartbeats 0 in
theorem PySem.Challenge.cw_askwright_k35_ways_of_things_holds : PySem.Challenge.rw_askwright_k35_ways_of_things.Holds := by
 w_on;o_law;k_head;(case hw=>w_witness2)
 k_fill
 refine L2.En (l:=PySem.Challenge.rw_askwright_k35_ways_of_things) (n:=63) (k:=133) (x:="script") (CX:=L2.CX0) (sp:=K35.IZ) rfl (by decide) rfl ⟨rfl,by decide,by decide⟩ (fun w h Y=>PySem.W.kIn_of Y) ?F ?S ?C
 case F=>
  intro w mg fa h KX G hmg
  have T:∃a,K35.Tx (L2.KOf KX) mg a:=by
   try dsimp only [L2.KOf]
   refine' K35.Sz KX G ..
   all_goals first|exact⟨by k_is,_,_,_,_,_,_,_,_,_,by k_is,by k_is,by k_is⟩|exact⟨by k_is,by k_is,_,_,_,_,_,_,_,_,_,by k_is,by k_is,by k_is⟩|(show _=_;k_is)|exact⟨by k_is,by k_is,by k_is,by k_is⟩|exact⟨by k_is,by k_is⟩|(intro x hx;simp only [uG,vf,uO] at hx;rcases hx with rfl|rfl|rfl|rfl|rfl|rfl|rfl|rfl|rfl|rfl|rfl|rfl|rfl|rfl|rfl<;>k_is)|skip
  erw[T,a,T]
  have C:∃g,K35.Fx (L2.KOf KX) w mg g a:=by
   try dsimp only [L2.KOf] at T⊢
   refine' K35.Aan T KX G (kF:= ?kF) (kM:= ?kM) (fF:= ?fF) (fM:= ?fM) (oM:= ?oM) (kk:= ?kk) (b1:= ?b1) (b2:= ?b2) ..
   all_goals try (first|(show _=u_ (u_ _);k_is)|(show _=u_ (Obj.mk _ _ _ _);k_is)|exact⟨_,_,_,_,by k_is,rfl⟩)
   (case kF=>(repeat (first|exact trivial|refine[⟨_,_,rfl,rfl⟩:?_])));(case kM=>(repeat (first|exact trivial|refine[⟨_,_,rfl,rfl⟩:?_])))
   case fF=>
    intro x hx
    unfold FRM at hx
    simp only [uG,vf,uO] at hx
    rcases hx with rfl|rfl|rfl|rfl|rfl|rfl|rfl|rfl|rfl|rfl|rfl|rfl|rfl|rfl|rfl|rfl|rfl|rfl|rfl|rfl<;>exact⟨_,by k_is,_,_,_,_,by k_is,rfl⟩
   case fM=>
    intro x hx
    unfold K35.MKP at hx
    simp only [uG,vf,uO] at hx
    rcases hx with rfl|rfl|rfl|rfl|rfl|rfl|rfl|rfl|rfl|rfl|rfl<;>exact⟨_,by k_is,by k_is⟩
   case oM=>
    intro x hx
    unfold K35.RT at hx
    simp only [uG,vf,uO] at hx
    rcases hx with rfl|rfl|rfl|rfl|rfl|rfl|rfl|rfl|rfl<;>k_is
   (case kk=>rfl);(case b1=>k_exc);(case b2=>k_exc)
   all_goals rfl
  erw[C,g,C]
  have e0:=hmg.symm.trans T.Ay.m
  cases e0
  exact⟨_,T.Ay.law (fun _ _ _ _ _ _ _=>rfl),(by erw[T.Ay.F.ex,_,_,_,_,_,_,_,_,_,e,_];rw [e];rfl),fun base kb nb=>K35.O3 T C⟩
 case S=>exact fun w H a ns hl hO hS=>⟨a,ns,rfl,hS,hl,fun _=>rfl⟩
 case C=>exact fun _ _ _ _ z=>z
